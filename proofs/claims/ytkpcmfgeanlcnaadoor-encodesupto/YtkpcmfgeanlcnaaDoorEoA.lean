/-
  The statement Encodes, from its call to its return: alone up to the fork, beside the workers, beside those that leave; and where nothing is started.
-/
import Derived.Test.YtkpcmfgeanlcnaaDoorEnY
import Derived.WalkKit
import Derived.ProofKit
import Derived.OpenShut
import Derived.SliceStrings
import Derived.ChangeSlices
import Derived.Deep.Fields
import Derived.Deep.SlicePairs
import Derived.WideShapes
namespace Go.Proofs.YtkpcmfgeanlcnaaDoor
open Go.RowKit Go.Deep Go.Lf Go.Conc Go.ConcN Go.Gh Go.Hp
open Go.ConcR (Payload WgAt wgBlock)

theorem srt_of {m : Nat} {g : Nat → Ent} (h : ∀ i, i + 1 < m → Hp.lt (g i).k (g (i + 1)).k = true) : Srt m g := fun i hi => by
  have h1 := h i hi
  rcases Hp.lt_tri (g i).k (g (i + 1)).k with ⟨_, h2, _⟩ | ⟨_, h2, _⟩ | ⟨_, h2, _⟩
  · exact h2
  · rw [h1] at h2; cases h2
  · rw [h1] at h2; cases h2

/-- Goroutine 0 stands at the fork. -/
def AtFork (Y : Nat → Option Obj) (v0 : World) (gr : Goroutine) (W : World) : Prop :=
  ∃ (K N C m cap : Nat) (bo : Option Addr) (f g : Nat → Ent) (d : Ent → List UInt8) (T4 T10 T18 T32' T : Array Value) (rest : List Nat) (x vn vs vj : Value) (pb pc gm cm bh bk bd Pp Ff ba Cc : Nat) (wc u w2 v3 : World),
    gr = G ((base 62).at ⟨T, []⟩ [.code gc3]) [frameA T32' rest, frameen T18, frameed T10, framees T4] ∧ Sim NoX Y W v3 ∧ T14 T4 ∧ T32 (.slice bo m cap) pb T10 ∧ T28 T18 ∧ TA pc vn vs (.slice (some ⟨gm, 0, none⟩) (mlen m g) cm) (.slice (some ⟨bh, 0, none⟩) N N) x T32' ∧ Left x rest ∧ TPc bk bd ba T ∧
    PFc K N (lenC K (joinD (fun j => d (g j)) m).length) (joinD (fun j => d (g j)) m) bk bd Pp Ff ba Cc v3 ∧ (∀ b, b < w2.heap.size → b < Cc) ∧ FA K N C m g (joinD (fun j => d (g j)) m) pc gm bh vn vs vj wc u w2 ∧ Below w2.heap.size w2 v3 ∧
    RowAt u pb [.int .i64 ((K : Nat) : Int), .int .i64 ((N : Nat) : Int), .int .i64 ((C : Nat) : Int)] 28 ∧ Args u bo m cap f d ∧ Below v0.heap.size v0 u ∧ ParamsOk (K : Int) (N : Int) (C : Int) ∧ NamesFit m f ∧ Rearr m f g ∧ (∀ i, i + 1 < m → Hp.lt (g i).k (g (i + 1)).k = true) ∧ NamesOk (namesOf m g) ∧ FewOk (namesOf m g) (sizesOf m g) ∧ (joinD (fun j => d (g j)) m).length ≤ 65536

theorem to_fork {K N C m cap : Nat} {bo : Option Addr} {f : Nat → Ent} {d : Ent → List UInt8} {v w : World} {Y : Nat → Option Obj} (hA : Args v bo m cap f d) (hP : ParamsOk (K : Int) (N : Int) (C : Int)) (hNf : NamesFit m f) (hFw : ∀ g, Rearr m f g → Srt m g → FewOk (namesOf m g) (sizesOf m g)) (hT : Tab v) (hsim : Sim NoX Y w v) :
    ∃ g' W, AtFork Y v g' W ∧ Gets Tryd.prog NoX (G ((base 4).at ⟨#[.slice bo m cap, .agg #[.int .i64 ((K : Nat) : Int), .int .i64 ((N : Nat) : Int), .int .i64 ((C : Nat) : Int)]] ++ Array.replicate 12 undef, []⟩ [.code esBody]) []) w g' W := by
  obtain ⟨⟨q1, q2, q3⟩, q4, q5⟩ := id hP
  refine to_stat (Y := Y) (Φ := AtFork Y v) (fun T4 wa hT4 hba => ?_) w hsim
  refine to_enc fun T10 pb wb hT10 hpb hbb => ?_
  have hvb := hba.trans (hbb.mono hba.size)
  have hAb := hA.below hvb
  refine to_arch hAb hP hNf fun T18 g bo2 cap2 wc hT18 hR hlt hBc hbc => ?_
  have hS := srt_of hlt
  have hN := (names_iff hR hS).2 hNf
  have hF := hFw g hR hS
  have hvc := hvb.trans (hbc.mono hvb.size)
  have hD : ∀ i, i < m → DataAt wc (g i) (d (g i)) := fun i hi => by
    obtain ⟨j, hj, e⟩ := hR.from hi
    rw [e]
    exact (hA.dat j hj).below hvc (Nat.le_refl _)
  have hjl : (joinD (fun j => d (g j)) m).length ≤ 65536 := by
    rw [← tot_sizes d g m (fun i hi => (hD i hi).1)]
    exact hF.2.1
  refine to_cols (d := d) (by omega) hA.hm hBc hD hN hF (hT.below hvc hT.1) fun T32' rest x vn vs vj pc gm cm bh u w2 hTA hL hFA => ?_
  refine columns_pre (by omega) (by omega) (by omega) hjl hFA.dat fun bk bd Pp Ff ba Cc T v3 hTP hPF hlow hb3 => ?_
  refine rea_here fun W hW => ?_
  have hvu := hvc.trans (hFA.wu.mono hvc.size)
  have hbu := hbc.trans (hFA.wu.mono hbc.size)
  exact ⟨K, N, C, m, cap, bo, f, g, d, T4, T10, T18, T32', T, rest, x, vn, vs, vj, pb, pc, gm, cm, bh, bk, bd, Pp, Ff, ba, Cc, wc, u, w2, v3, rfl, hW, hT4, hT10, hT18, hTA, hL, hTP, hPF, hlow, hFA, hb3, hpb.later (S := fun _ => False) (.of_below hbu) hpb.lt id, hA.below hvu, hvu, hP, hNf, hR, hlt, hN, hF, hjl⟩

theorem sufc_block [Payload] {Y : Nat → Option Obj} {w2 v3 W W' v' : World} {k n L s0 : Nat} {lb : List Nat} {l : List UInt8} {bk bd P F ba C : Nat} (hs : Sim NoX Y W v3) (hb : Below w2.heap.size w2 v3) (hlow : ∀ b, b < w2.heap.size → b < C)
    (hk : ∀ b c t fr, some b ≠ some W.heap.size → W'.heap[b]? = some (.cells c t fr) → v'.heap[b]? = some (.cells c t fr))
    (hF : SFc W.heap.size C k n (W.heap.size + 1) L (envK k L l bk bd P F ba (fun b => (W.alloc (wgBlock link.tWg 0 0)).heap[b]?)) s0 (gw W' lb)) {b : Nat} {c : Array Value} {t : TypeId} {fr : Nat × Nat} (h : w2.heap[b]? = some (.cells c t fr)) : v'.heap[b]? = some (.cells c t fr) := by
  have h1 : b < w2.heap.size := (Array.getElem?_eq_some_iff.1 h).1
  have h2 := hlow b h1
  have h3 := (hb.block b h1).trans h
  have h4 := sim_block hs h3
  have hlt : b < W.heap.size := (Array.getElem?_eq_some_iff.1 h4).1
  have e1 : W'.heap[b]? = (W.alloc (wgBlock link.tWg 0 0)).heap[b]? := hF.low.std b (by omega) (by omega) (by omega)
  rw [Below.heap_alloc _ _ _ hlt] at e1
  exact hk b c t fr (by simp; omega) (e1.trans h4)

theorem bytes_res (k L : Nat) (l : List UInt8) (bk bd P F ba : Nat) (h0 : Nat → Option Obj) (t : Nat) : bytesA ((envK k L l bk bd P F ba h0).res k L t) = (u8V (colB k L l t)).toArray := by
  rw [res_eq, colB_V]
  unfold bytesA numsV
  rw [List.map_map]
  rfl

set_option maxHeartbeats 1000000 in
set_option maxRecDepth 100000 in
theorem from_fork {Y : Nat → Option Obj} {w v W : World} {g0 gr : Goroutine} (hsim : Sim NoX Y w v) (hat : AtFork Y v gr W) (hG : Gets Tryd.prog NoX g0 w gr W) : Ok Tryd.prog (fun v w' => v = .bool true ∧ Kept w w') (solo g0 w) #[] := by
  obtain ⟨K, N, C, m, cap, bo, f, g, d, T4, T10, T18, T32', T, rest, x, vn, vs, vj, pb, pc, gm, cm, bh, bk, bd, Pp, Ff, ba, Cc, wc, u, w2, v3, rfl, hW, hT4, hT10, hT18, hTA, hLf, hTP, hPF, hlow, hFA, hb3, hpb, hAu, hvu, hP, hNf, hR, hlt, hN, hF, hjl⟩ := hat
  obtain ⟨⟨q1, q2, q3⟩, q4, q5⟩ := id hP
  obtain ⟨T', hTW, hG2⟩ := colfork_alloc (cs := [frameA T32' rest, frameen T18, frameed T10, framees T4]) W hTP
  have hG3 := (hG.avoid (Nat.le_refl _)).trans hG2
  letI : Payload := ⟨24⟩
  letI : Out0 := ⟨W.output, W.os⟩
  have hnew := hPF.new
  have hsz := hW.size
  have hLb : lenC K (joinD (fun j => d (g j)) m).length ≤ 65536 := by
    have := lenC_le (k := K) (by omega) (joinD (fun j => d (g j)) m).length
    omega
  have hEok : EnvCOk (envK K (lenC K (joinD (fun j => d (g j)) m).length) (joinD (fun j => d (g j)) m) bk bd Pp Ff ba (fun b => (W.alloc (wgBlock link.tWg 0 0)).heap[b]?)) K N (lenC K (joinD (fun j => d (g j)) m).length) := envK_ok (by omega) (by omega) (by omega)
  have hSF := sfc_start rfl hW hPF
  have hSp := spc_start (cs := [frameA T32' rest, frameen T18, frameed T10, framees T4]) hEok (hTW _ rfl rfl rfl) hSF
  refine wholeI (ty := link.tWg) hG3 (Nat.lt_succ_self _) (by omega) (by omega) (by simp) (by unfold WgAt; rw [heap_new]) hSF.pay hSp ⟨fun _ _ _ _ r h => WPr.rely h r, fun _ _ _ _ r h => KC.rely h r⟩ (by omega) rfl rfl ?_
  intro ids a W' lb ho hos hwk hK hp hres
  obtain ⟨T1, s0, j, ops, rfl, hTS, hSF', hids⟩ := hK
  obtain ⟨Y', v', hs', hk'⟩ := doctor W' (some W.heap.size) (fun b h => by
    cases h
    obtain ⟨st, sm, hw⟩ := hwk
    exact ⟨_, _, _, hw⟩)
  obtain ⟨⟨dN, hd⟩, hcell, hba⟩ := sufc_of hW hb3 hlow hPF hk' hwk hSF' hids hres
  have hblk : ∀ {b : Nat} {c : Array Value} {t : TypeId} {fr : Nat × Nat}, w2.heap[b]? = some (.cells c t fr) → v'.heap[b]? = some (.cells c t fr) := fun h => sufc_block hW hb3 hlow hk' hSF' h
  have e1 : v'.heap.size = W'.heap.size := hs'.size.symm
  have e2 : W.heap.size + 1 ≤ W'.heap.size := Nat.le_trans hSF'.sb.2.1 hSF'.sb.2.2
  have e3 : w.heap.size ≤ W.heap.size := gets_size hG
  have e5 : w2.heap.size ≤ v'.heap.size := by have := hb3.size; omega
  have hus := hFA.us
  have hbh : bh < w2.heap.size := (Array.getElem?_eq_some_iff.1 hFA.sh).1
  have hsub : Sub u v' := ⟨by omega, fun b c t fr hx => by
    have hxl := (Array.getElem?_eq_some_iff.1 hx).1
    exact hblk ((hFA.bel.block b (by omega)).trans hx)⟩
  have hVA : VA K N (lenC K (joinD (fun j => d (g j)) m).length) Cc bh dN (joinD (fun j => d (g j)) m) v' := ⟨fun t ht => (hd t ht).1, fun t ht => by rw [← bytes_res]; exact (hd t ht).2, by have := hlow bh hbh; omega⟩
  obtain ⟨bN, cN, rfl, hcN, _⟩ := hFA.nm
  obtain ⟨bZ, cZ, rfl, hcZ, _⟩ := hFA.sz
  rw [nameV_length, namesOf_length] at hTA
  rw [intV_length, sizesOf_length] at hTA
  refine backC (X := fun b => some b = some W.heap.size) (Y := Y') no_ev hTS hba (fun τ dd w1 hw1 => ?_) W' hs'.t
  refine backA (v := v') no_ev hTA hLf (fun T5 hT5 => ?_) w1 hw1
  have hst0 := hFA.sh
  refine archLoop (v0 := v') (u := u) (dN := dN) (l := joinD (fun j => d (g j)) m) (L := lenC K (joinD (fun j => d (g j)) m).length) no_ev (by omega) (by omega) hLb hN hF hFA.par hFA.man hFA.gml hFA.tab (by omega) hsub hVA ⟨_, hblk hst0⟩ (fun v2 ov hLA => ?_) N 0 T5 v' (fun _ => undef) (by omega) hT5 ⟨KX.refl _ _, ⟨_, hblk hst0, size_madeCells _ _, fun t ht => absurd ht (by omega)⟩, fun t ht => absurd ht (by omega)⟩
  have hsub2 := hLA.kx.sub hsub (by omega)
  refine backEn no_ev hT18 (backEd no_ev hT10 (by omega) (hsub2.row hpb) (hsub2.args hAu) hP hNf hR hlt hF (ov := ov) (fun i hi => ?_) (fun i hi => holds8_ownB (hLA.own i hi)) (fun v4 hk4 => backEs no_ev hT4 fun T' ht => ?_))
  · obtain ⟨cur, h1, h2, h3⟩ := hLA.sh
    exact cell_of_block h1 (h3 i hi)
  refine reaI_done (a := ⟨T', []⟩) (y := .bool true) (fun e he => by simp at he) rfl Tryd.func4 (by kernel_rfl) (fun u => ?_) (fun w'' dd hst hend => ?_)
  · rw [Sem.runT_eq, results_tmp (fn := Tryd.f4) (t := 4) rfl _ _ _, events_results_tmp (fn := Tryd.f4) (t := 4) rfl _ _, ht]
  · refine ⟨rfl, #[], by simp, fun d' => ⟨.bool true, hend d', rfl, ?_⟩⟩
    obtain ⟨τ, dd, hst⟩ := hst
    have hkx := hLA.kx.kept hk4
    have hvs := hvu.size
    have e6 : W'.heap.size ≤ w''.heap.size := by
      rw [hst.size, hs'.size]
      exact hkx.size
    have ewu := hFA.wu
    have ebl := hFA.bel
    refine ⟨?_, ?_, by show w.heap.size ≤ w''.heap.size; omega, fun b hb => ?_⟩
    · show w''.os = w.os
      rw [hst.os, show ({ v4 with tape := τ, drawn := dd } : World).os = v4.os from rfl, hkx.os, ← hs'.os, hos]
      show W.os = w.os
      rw [hW.os, hb3.os, ebl.os, hvu.os, hsim.os]
    · show w''.output = w.output
      rw [hst.out, show ({ v4 with tape := τ, drawn := dd } : World).output = v4.output from rfl, hkx.output, ← hs'.out, ho]
      show W.output = w.output
      rw [hW.out, hb3.output, ebl.output, hvu.output, hsim.out]
    · show w''.heap[b]? = w.heap[b]?
      have hbw : b < v.heap.size := by rw [← hsim.size]; exact hb
      have hbu : b < u.heap.size := Nat.lt_of_lt_of_le hbw hvs
      have hbw2 : b < w2.heap.size := by omega
      have hbC : b < Cc := hlow b hbw2
      rw [Sim.agree hs' hst (fun e => by cases e; omega) (hkx.block b (by omega) (by omega))]
      rw [show W'.heap[b]? = (W.alloc (wgBlock link.tWg 0 0)).heap[b]? from hSF'.low.std b (by omega) (by omega) (by omega), Below.heap_alloc _ _ _ (by omega)]
      exact Sim.agree hsim hW id ((hb3.block b hbw2).trans ((ebl.block b (by omega)).trans (hvu.block b hbw)))
end Go.Proofs.YtkpcmfgeanlcnaaDoor

/-
  Encodes for all that may be handed in; and what is handed in, opened.
-/
namespace Go.Proofs.YtkpcmfgeanlcnaaDoor
open Go.RowKit Go.Deep Go.Lf Go.Conc Go.Hp Go.ChangeShapes Go.WideShapes

set_option maxRecDepth 100000 in
theorem encodes_ok (k n c : Int) {w : World} {bo : Option Addr} {m cap : Nat} {f : Nat → Ent} {d : Ent → List UInt8} (hA : Args w bo m cap f d) (hT : Tab w) :
    Ok Tryd.prog (fun v w' => v = .bool true ∧ Kept w w') (solo (G (Frame.enter Tryd.prog 4 #[.slice bo m cap, .agg #[.int .i64 k, .int .i64 n, .int .i64 c]] .normal) []) w) #[] := by
  have lone : ∀ x, Refused k n c m f x → Ok Tryd.prog (fun v w' => v = .bool true ∧ Kept w w') (solo (G (Frame.enter Tryd.prog 4 #[.slice bo m cap, .agg #[.int .i64 k, .int .i64 n, .int .i64 c]] .normal) []) w) #[] := fun x h =>
    ok_of_calls (by kernel_rfl) ((encoded_no k n c x hA h).mono fun e w' h' => ⟨.bool true, h'.1, rfl, below_kept h'.2⟩)
  by_cases hP : ParamsOk k n c
  case neg => exact lone 1 (.inl ⟨hP, rfl⟩)
  by_cases hNf : NamesFit m f
  case neg => exact lone 2 (.inr (.inl ⟨hP, hNf, rfl⟩))
  by_cases hFw : ∀ g, Rearr m f g → Srt m g → FewOk (namesOf m g) (sizesOf m g)
  case neg =>
    refine lone 3 (.inr (.inr ⟨hP, hNf, ?_, rfl⟩))
    refine Classical.byContradiction fun hno => hFw fun g h1 h2 => Classical.byContradiction fun h3 => hno ⟨g, h1, h2, h3⟩
  clear lone
  obtain ⟨⟨q1, q2, q3⟩, q4, q5⟩ := id hP
  obtain ⟨K, rfl⟩ : ∃ K : Nat, k = (K : Int) := ⟨k.toNat, by omega⟩
  obtain ⟨N, rfl⟩ : ∃ N : Nat, n = (N : Int) := ⟨n.toNat, by omega⟩
  obtain ⟨C, rfl⟩ : ∃ C : Nat, c = (C : Int) := ⟨c.toNat, by omega⟩
  obtain ⟨Y, v, hsim, hc⟩ := doctor w none (fun b h => by cases h)
  have hX : (fun b => some b = (none : Option Nat)) = NoX := funext fun b => propext ⟨fun h => (by cases h), fun h => h.elim⟩
  rw [hX] at hsim
  have hsub : Sub w v := ⟨by rw [hsim.size]; exact Nat.le_refl _, fun b cc t fr h => hc b cc t fr (by simp) h⟩
  obtain ⟨g, W, hat, hGe⟩ := to_fork (hsub.args hA) hP hNf hFw (hsub.tab hT) hsim
  have e : Frame.enter Tryd.prog 4 #[.slice bo m cap, .agg #[.int .i64 (K : Int), .int .i64 (N : Int), .int .i64 (C : Int)]] .normal = (base 4).at ⟨#[.slice bo m cap, .agg #[.int .i64 (K : Int), .int .i64 (N : Int), .int .i64 (C : Int)]] ++ Array.replicate 12 undef, []⟩ [.code esBody] := by
    rw [enter_at _ Tryd.func4 (c := esBody) (by kernel_rfl), show Tryd.f4.ntmps - (#[.slice bo m cap, .agg #[.int .i64 (K : Int), .int .i64 (N : Int), .int .i64 (C : Int)]] : Array Value).size = 12 from by rw [Tryd.ntmps4]; rfl]
  rw [e]
  exact from_fork hsim hat hGe

/-- The bytes that a blob shows. -/
def byteAt (w : World) (p : Addr) : UInt8 := match w.cell? p with
  | some (.int .u8 z) => UInt8.ofNat z.toNat
  | _ => 0
def dataOf (w : World) (e : Ent) : List UInt8 := match e.a with
  | none => []
  | some ad => (List.range e.l).map fun j => byteAt w (ad.add j)

section
variable {H : Type} {enc : TypeId × Value → H} {P : Program} {w : World}
theorem u8_wf {n : Int} (h : (Lit.int .u8 n).wf = true) : 0 ≤ n ∧ n < 256 := by
  unfold Lit.wf at h
  simp only [Bool.and_eq_true, decide_eq_true_eq] at h
  have e : IntKind.u8.max = 255 := by decide
  have e2 : IntKind.u8.min = 0 := by decide
  omega
/-- Bytes that were handed in, within something else. -/
theorem open_data {t e : TypeId} {v : Value} {fuel base : Nat} {x : DataW H × List MemPlace} (ht : P.underlying t = some (.slice e)) (he : P.underlying e = some (.int .u8)) (hc : P.cellsOf e = 1) (h : DataW.trod enc P w base (fun _ => true) true fuel t [v] = some x) (k : List UInt8) :
    ∃ ent : Ent, ent.k = k ∧ v = .slice ent.a ent.l ent.c ∧ ent.l ≤ 9223372036854775807 ∧ DataAt w ent (dataOf w ent) := by
  rcases open_ints ht he hc h with ⟨hcs, _⟩ | ⟨a, len, cap, zs, hcs, _, hl, hmax, hz, hx, hcell, hwf⟩
  · simp only [List.cons.injEq, and_true] at hcs
    subst hcs
    exact ⟨⟨k, none, 0, 0⟩, rfl, rfl, by simp, rfl, .inl ⟨rfl, rfl, rfl⟩⟩
  · simp only [List.cons.injEq, and_true] at hcs
    subst hcs
    simp only [if_true] at hz
    refine ⟨⟨k, some a, len, cap⟩, rfl, rfl, by unfold maxLen at hmax; show len ≤ _; omega, by simp [dataOf], .inr ⟨a, rfl, fun j u hj => ?_⟩⟩
    have hj' : j < len := by
      have := (List.getElem?_eq_some_iff.1 hj).1
      simpa [u8V, dataOf] using this
    have hc1 := hcell j (by omega)
    have hw1 : (Lit.int .u8 (zs.getD j 0)).wf = true := by
      rw [List.getD_eq_getElem?_getD, List.getElem?_eq_getElem (show j < zs.length by omega)]
      exact hwf _ (List.getElem_mem _)
    obtain ⟨z0, z1⟩ := u8_wf hw1
    rw [hc1]
    have e1 : (u8V (dataOf w ⟨k, some a, len, cap⟩))[j]? = some (.int .u8 (((byteAt w (a.add j)).toNat : Nat) : Int)) := by
      simp [u8V, dataOf, hj']
    rw [e1] at hj
    rw [← hj]
    unfold byteAt
    rw [hc1]
    show some (Value.int .u8 _) = some (.int .u8 (((UInt8.ofNat (zs.getD j 0).toNat).toNat : Nat) : Int))
    rw [UInt8.toNat_ofNat', Nat.mod_eq_of_lt (by omega)]
    congr 2
    omega

/-- Blobs that were handed in. -/
theorem open_blobs {t e : TypeId} {f0 f1 : Field} {u : TypeId} {v : Value} {d : DataW H} {p : List MemPlace} (ht : P.underlying t = some (.slice e)) (he : P.underlying e = some (.struct #[f0, f1])) (ce : P.cellsOf e = 2) (o0 : f0.offset = 0) (o1 : f1.offset = 1) (c0 : P.cellsOf f0.type = 1) (c1 : P.cellsOf f1.type = 1)
    (h0 : P.underlying f0.type = some .string) (h1 : P.underlying f1.type = some (.slice u)) (hu : P.underlying u = some (.int .u8)) (cu : P.cellsOf u = 1)
    (hok : ∀ a len cap, v = .slice a len cap → ∀ (l1 l2 : List (DataW H)), d = .slice l1 l2 → l1.length ≤ 1048576) {r : Reach} {base : Nat} (hval : Value.okWide P w r base t v) (h : DataW.Trod enc P w 0 (fun _ => true) true t v d p) :
    ∃ (bo : Option Addr) (m cap : Nat) (f : Nat → Ent) (dd : Ent → List UInt8), v = .slice bo m cap ∧ Args w bo m cap f dd := by
  obtain ⟨a0, len0, cap0, rfl⟩ := okWide_slice ht hval
  obtain ⟨fuel, hf⟩ := h
  rcases open_slice_pairs ht he ce o0 o1 c0 c1 hf with ⟨hcs, _⟩ | ⟨a, len, cap, m, n, V0, V1, D0, D1, P0, P1, hcs, _, hl, hm, hmm, hx, hall⟩
  · simp [Value.cells] at hcs
    obtain ⟨rfl, rfl, rfl⟩ := hcs
    exact ⟨none, 0, 0, fun _ => ⟨[], none, 0, 0⟩, dataOf w, rfl, by omega, by omega, fun _ => rfl, fun i h => absurd h (by omega), fun i h => absurd h (by omega), ⟨fun h => absurd h (by omega)⟩, fun i h => absurd h (by omega)⟩
  · simp [Value.cells] at hcs
    obtain ⟨rfl, rfl, rfl⟩ := hcs
    simp only [if_true] at hmm
    subst hmm
    simp only [Prod.mk.injEq] at hx
    obtain ⟨rfl, _⟩ := hx
    have hm1 : len0 ≤ 1048576 := by
      have := hok _ _ _ rfl _ _ rfl
      simpa using this
    have hall2 : ∀ i, i < len0 → ∃ q : Ent, V0 i = strV q.k ∧ V1 i = q.d ∧ q.k.length ≤ 9223372036854775807 ∧ q.l ≤ 9223372036854775807 ∧ DataAt w q (dataOf w q) := fun i hi => by
      obtain ⟨_, _, g0, g1⟩ := hall i (by omega)
      obtain ⟨s, hs1, _, hs2⟩ := DataW.trod_string h0 g0
      simp only [List.cons.injEq, and_true] at hs1
      obtain ⟨q, hq1, hq2, hq3, hq4⟩ := open_data h1 hu cu g1 s.data.toList
      refine ⟨q, ?_, hq2, ?_, hq3, hq4⟩
      · rw [hs1, hq1]
        rfl
      · rw [hq1]
        have e : s.data.toList.length = s.size := Array.length_toList
        rw [e]
        unfold maxLen at hs2
        omega
    haveI : Inhabited Ent := ⟨⟨[], none, 0, 0⟩⟩
    obtain ⟨q, hq⟩ := choose_lt hall2
    refine ⟨some a, len0, m, q, dataOf w, rfl, hm1, hl, (fun h => nomatch h), fun i hi => (hq i hi).2.2.1, fun i hi => (hq i hi).2.2.2.1, ⟨fun h0 => ?_⟩, fun i hi => (hq i hi).2.2.2.2⟩
    obtain ⟨b, off, sp⟩ := a
    have hspot : sp = none := by simpa [Addr.add] using World.cell?_spot (hall 0 (by omega)).1
    subst hspot
    have hb0 : b < w.heap.size := by
      have := (hall 0 (by omega)).1
      rw [addr_addD] at this
      exact cell_lt this
    refine ⟨b, off, rfl, hb0, fun i hi => ⟨?_, ?_⟩⟩
    · have := (hall i (by omega)).1
      rw [addr_addD, (hq i hi).1] at this
      exact this
    · have := (hall i (by omega)).2.1
      rw [addr_addD, (hq i hi).2.1, ← Nat.add_assoc] at this
      exact this

theorem open_three {r : Reach} {b0 base : Nat} {spare : Nat → Bool} {held : Bool} {t : TypeId} {f0 f1 f2 : Field} {v : Value} {d : DataW H} {p : List MemPlace} (hs : P.underlying t = some (.struct #[f0, f1, f2])) (hone : oneCellFields P #[f0, f1, f2] = true) (hC : P.cellsOf t = 3) (i0 : P.underlying f0.type = some (.int .i64)) (i1 : P.underlying f1.type = some (.int .i64)) (i2 : P.underlying f2.type = some (.int .i64))
    (hv : Value.okWide P w r b0 t v) (h : DataW.Trod enc P w base spare held t v d p) : ∃ k n c : Int, v = .agg #[.int .i64 k, .int .i64 n, .int .i64 c] := by
  obtain ⟨cs, rfl, hsz⟩ := okWide_struct hs hv
  obtain ⟨l⟩ := cs
  match l, hsz.trans hC with
  | [c0, c1, c2], _ =>
    obtain ⟨fuel, hf⟩ := h
    obtain ⟨xs, n, _, hx, _, hlen, hg⟩ := DataW.trod_struct hs hf
    match xs, hlen with
    | [y0, y1, y2], _ =>
      have g : ∀ (i : Nat) (f : Field), (#[f0, f1, f2] : Array Field)[i]? = some f → f.offset = i ∧ P.cellsOf f.type = 1 := hone_of hone
      obtain ⟨o0, k0⟩ := g 0 f0 rfl
      obtain ⟨o1, k1⟩ := g 1 f1 rfl
      obtain ⟨o2, k2⟩ := g 2 f2 rfl
      have t0 : DataW.trod enc P w base spare held n f0.type [c0] = some y0 := by simpa [Value.cells, o0, k0] using hg 0 f0 rfl
      have t1 : DataW.trod enc P w base spare held n f1.type [c1] = some y1 := by simpa [Value.cells, o1, k1] using hg 1 f1 rfl
      have t2 : DataW.trod enc P w base spare held n f2.type [c2] = some y2 := by simpa [Value.cells, o2, k2] using hg 2 f2 rfl
      obtain ⟨a0, e0, _, _⟩ := DataW.trod_int i0 t0
      obtain ⟨a1, e1, _, _⟩ := DataW.trod_int i1 t1
      obtain ⟨a2, e2, _, _⟩ := DataW.trod_int i2 t2
      simp only [List.cons.injEq, and_true] at e0 e1 e2
      subst e0 e1 e2
      exact ⟨_, _, _, rfl⟩
end
end Go.Proofs.YtkpcmfgeanlcnaaDoor

/-
  The statement behind Rebuild: run alone, beside those that leave.
-/
import Derived.Test.YtkpcmfgeanlcnaaRmJ
import Derived.Test.YtkpcmfgeanlcnaaRmF
import Derived.Test.YtkpcmfgeanlcnaaRmH
import Derived.Test.YtkpcmfgeanlcnaaLfL
namespace Go.Proofs.Ytkpcmfgeanlcnaa
open Go.RowKit Go.Deep Go.Lf Go.Conc

theorem Kept.refl (w : World) : Kept w w := ⟨rfl, rfl, Nat.le_refl _, fun _ _ => rfl⟩
theorem Kept.trans {a b c : World} (h : Kept a b) (h' : Kept b c) : Kept a c := ⟨h'.os.trans h.os, h'.output.trans h.output, Nat.le_trans h.size h'.size, fun x hx => (h'.block x (Nat.lt_of_lt_of_le hx h.size)).trans (h.block x hx)⟩
theorem below_kept {w w' : World} (h : Below w.heap.size w w') : Kept w w' := ⟨h.os, h.output, h.size, h.block⟩
theorem Kept.tape {w w' : World} (h : Kept w w') (τ : Nat → Question → Nat) (d : Nat) : Kept w { w' with tape := τ, drawn := d } := ⟨h.os, h.output, h.size, h.block⟩
theorem Kept.cell {w w' : World} (h : Kept w w') {b o : Nat} {v : Value} (hc : w.cell? ⟨b, o, none⟩ = some v) : w'.cell? ⟨b, o, none⟩ = some v := by
  have hb := cell_lt hc
  have e := h.block b hb
  simp only [World.cell?, e] at hc ⊢
  exact hc

/-- What Rebuild told. -/
structure Ans (K N M bc oc : Nat) (q : CL) (bd od : Nat → Nat) (yv : Nat → Nat → Nat) (C : Nat) (dN : Nat → Nat) (xs : Nat → Nat → F) (v : World) : Prop where
  fc : FC K N M bc oc q bd od yv v
  ans : ∀ t, t < K → v.cell? ⟨C, t, none⟩ = some (.slice (some ⟨dN t, 0, none⟩) q.L q.L)
  xv : ∀ t m, t < K → m < q.L → v.cell? ⟨dN t, m, none⟩ = some (.int .u8 (((xs t m).val : Nat) : Int))
  inj : F.Inj K (mF K q.ix)
  sol : ∀ m, m < q.L → ∀ i, i < K → F.dot K (mF K q.ix i) (fun j => xs j m) = Fin.ofNat 256 (yv i m)

section
variable {K N M bc oc cap C : Nat} {q : CL} {bd od dN : Nat → Nat} {yv : Nat → Nat → Nat} {xs : Nat → Nat → F} {v v' : World}
theorem FC.kept (h : FC K N M bc oc q bd od yv v) (hk : Kept v v') : FC K N M bc oc q bd od yv v' :=
  ⟨h.num, h.qL, ⟨Nat.lt_of_lt_of_le h.co.lt hk.size, fun i hi => hk.cell (h.co.c0 i hi), fun i hi => hk.cell (h.co.c1 i hi)⟩, h.ix, h.inj, ⟨fun i hi => Nat.lt_of_lt_of_le (h.dat.lt i hi) hk.size, h.dat.here, fun i m hi hm => hk.cell (h.dat.y i m hi hm), h.dat.yl⟩⟩
theorem Ans.kept (h : Ans K N M bc oc q bd od yv C dN xs v) (hk : Kept v v') : Ans K N M bc oc q bd od yv C dN xs v' :=
  ⟨h.fc.kept hk, fun t ht => hk.cell (h.ans t ht), fun t m ht hm => hk.cell (h.xv t m ht hm), h.inj, h.sol⟩
theorem Ans.same (h : Ans K N M bc oc q bd od yv C dN xs v) {e : Ending} {v2 : World} (hr : RebPost K q.L xs v e v2) :
    ∃ go, e = .returned (.slice (some ⟨go, 0, none⟩) K K) ∧ Kept v v2 ∧ ∀ w, w.heap = v2.heap → Calls Try.prog 27 #[.slice (some ⟨C, 0, none⟩) K K, .slice (some ⟨go, 0, none⟩) K K] w fun e w' => e = .returned (.bool true) ∧ ∃ n, w' = w.drewN n := by
  obtain ⟨go, ov, rfl, h1, h2, h3⟩ := hr
  have hA := h.kept (below_kept h3)
  have hn := hA.fc.num
  refine ⟨go, rfl, below_kept h3, fun w e => ?_⟩
  have st : ∀ {a : Addr}, w.cell? a = v2.cell? a := fun {a} => by simp only [World.cell?, e]
  refine sameLists_yes K C go 0 0 K K (fun t => .slice (some ⟨dN t, 0, none⟩) q.L q.L) ov (fun t => u8s q.L fun m => (xs t m).val) w (by omega) (fun i hi => ?_) (fun i hi => ?_) (fun i hi => ?_) (fun i hi => ?_)
  · rw [st, Nat.zero_add]
    exact hA.ans i hi
  · rw [st, Nat.zero_add]
    exact h1.cell hi
  · refine holds8_heap (w := v2) (.inr ⟨⟨dN i, 0, none⟩, q.L, by rw [u8s_length], fun j hj => ?_⟩) e
    rw [u8s_at (fun j _ => (xs i j).isLt) j hj, add_none, Nat.zero_add]
    exact hA.xv i j hi (by simpa [u8s] using hj)
  · exact holds8_heap (holds8_owns (f := fun m => (xs i m).val) (h2 i hi) (fun j _ => (xs i j).isLt)) e
end

section
variable {X : Nat → Prop} {Y : Nat → Option Obj} {D : Array Event → Prop} {Stop : Goroutine → World → Prop} {v : World} {K N M bc oc cap C : Nat} {q : CL} {bd od dN : Nat → Nat} {yv : Nat → Nat → Nat} {xs : Nat → Nat → F}
set_option maxHeartbeats 8000000 in
set_option maxRecDepth 100000 in
theorem back5 (hD : ∀ w es, EvsP X w es → D es) {T5 : Array Value} (h5 : T17 T5) {vl : Value}
    (hend : ∀ (T' : Array Value) (v' : World), T'.getD 6 undef = .bool true → Kept v v' → ReaI Try.prog X Y D Stop 5 [] [.code .ret] ⟨T', []⟩ v') :
    ∀ w, SimT X Y w v → GoesI Try.prog D Stop (G ((frame5 T5).finish (.tuple #[vl, .bool true])) []) w := by
  have hD0 : D #[] := hD ⟨#[], fun _ _ => 0, 0, default, #[]⟩ #[] fun _ he => by simp at he
  obtain ⟨f, rfl⟩ := h5
  have e : ∀ T, (frame5 T).finish (.tuple #[vl, .bool true]) = (base 5).at (Act.put ⟨T, []⟩ (some 13) (.tuple #[vl, .bool true])) (.inRegion r5 [4, 5, 6, 7, 8] :: [.code d5]) := fun T => by
    unfold frame5
    rw [Frame.finish_at]
    simp only [r5, q5]
    rfl
  rw [e]
  intro w hs
  revert w
  show ReaI _ _ _ _ _ _ _ _ _ _
  walk_nrm
  refine reaI_op0 goodF hD (.tuple #[vl, .bool true]) (by simp only [r5, q5]; rfl) rfl (by kernel_rfl) (fun z => by go_simp) ?_
  walk_nrm
  refine reaI_op0 goodF hD vl (by simp only [r5, q5]; rfl) rfl (by kernel_rfl) (fun z => by go_simp) ?_
  walk_nrm
  refine reaI_op0 goodF hD (.bool true) (by simp only [r5, q5]; rfl) rfl (by kernel_rfl) (fun z => by go_simp) ?_
  walk_nrm
  refine reaI_op0 goodF hD vl (by simp only [r5, q5]; rfl) rfl (by kernel_rfl) (fun z => by go_simp) ?_
  walk_nrm
  refine reaI_op0 goodF hD (.bool true) (by simp only [r5, q5]; rfl) rfl (by kernel_rfl) (fun z => by go_simp) ?_
  walk_nrm
  refine reaI_end hD0 ?_
  unfold d5 c5 body5
  simp only [cSnd7, Try.f5, Option.getD_some]
  refine reachI_go goodF hD (by kernel_rfl) rfl sf5 fun R hR τ d' => ?_
  have hv1 : Kept v { v with tape := τ, drawn := d' } := (Kept.refl v).tape τ d'
  generalize { v with tape := τ, drawn := d' } = v1 at hv1 ⊢
  go_wp2
  exact hend _ v1 rfl hv1

set_option maxHeartbeats 8000000 in
set_option maxRecDepth 100000 in
theorem back13 (hD : ∀ w es, EvsP X w es → D es) {T5 T13 : Array Value} (h5 : T17 T5) (h13 : T60 K N (.slice (some ⟨bc, oc, none⟩) M cap) T13) (hS : Ans K N M bc oc q bd od yv C dN xs v)
    (hend : ∀ (T' : Array Value) (v' : World), T'.getD 6 undef = .bool true → Kept v v' → ReaI Try.prog X Y D Stop 5 [] [.code .ret] ⟨T', []⟩ v') :
    ∀ w, SimT X Y w v → GoesI Try.prog D Stop (G ((frame13 T13).finish (.tuple #[.slice (some ⟨C, 0, none⟩) K K, .int .i64 0])) [frame5 T5]) w := by
  have hD0 : D #[] := hD ⟨#[], fun _ _ => 0, 0, default, #[]⟩ #[] fun _ he => by simp at he
  obtain ⟨f, rfl⟩ := h13
  have e : ∀ T, (frame13 T).finish (.tuple #[.slice (some ⟨C, 0, none⟩) K K, .int .i64 0]) = (base 13).at (Act.put ⟨T, []⟩ (some 16) (.tuple #[.slice (some ⟨C, 0, none⟩) K K, .int .i64 0])) (.inRegion rr13 [4, 5, 6, 7, 8] :: [.code dr13]) := fun T => by
    unfold frame13
    rw [Frame.finish_at]
    simp only [rr13, qr13]
    rfl
  rw [e]
  intro w hs
  revert w
  show ReaI _ _ _ _ _ _ _ _ _ _
  walk_nrm
  refine reaI_op0 goodF hD (.tuple #[.slice (some ⟨C, 0, none⟩) K K, .int .i64 0]) (by simp only [rr13, qr13]; rfl) rfl (by kernel_rfl) (fun z => by go_simp) ?_
  walk_nrm
  refine reaI_op0 goodF hD (.slice (some ⟨C, 0, none⟩) K K) (by simp only [rr13, qr13]; rfl) rfl (by kernel_rfl) (fun z => by go_simp) ?_
  walk_nrm
  refine reaI_op0 goodF hD (.int .i64 0) (by simp only [rr13, qr13]; rfl) rfl (by kernel_rfl) (fun z => by go_simp) ?_
  walk_nrm
  refine reaI_op0 goodF hD (.slice (some ⟨C, 0, none⟩) K K) (by simp only [rr13, qr13]; rfl) rfl (by kernel_rfl) (fun z => by go_simp) ?_
  walk_nrm
  refine reaI_op0 goodF hD (.int .i64 0) (by simp only [rr13, qr13]; rfl) rfl (by kernel_rfl) (fun z => by go_simp) ?_
  walk_nrm
  refine reaI_end hD0 ?_
  have hn := hS.fc.num
  have hqL := hS.fc.qL
  have c1 := proper_any (K : Int) (N : Int)
  rw [fitB_yes (by omega) (by omega) (by omega)] at c1
  have c2 : ∀ w, Kept v w → Calls Try.prog 25 #[.int .i64 ((K : Nat) : Int), .int .i64 ((N : Nat) : Int), .slice (some ⟨bc, oc, none⟩) M cap] w fun e w' => e = .returned (.bool true) ∧ Kept v w' := fun w hk => by
    have hf := hS.fc.kept hk
    refine (fitColumns_any K N M cap bc oc (some ⟨bc, oc, none⟩) _ q.db _ q.dc w (by omega) (by omega) (fun _ => ⟨rfl, hf.gc⟩)).mono ?_
    rintro e w1 ⟨r, rfl, hr, hb1⟩
    rw [hr.2 hf.fit]
    exact ⟨rfl, hk.trans (below_kept hb1)⟩
  have c3 : ∀ w, Kept v w → Calls Try.prog 26 #[.int .i64 ((K : Nat) : Int), .slice (some ⟨bc, oc, none⟩) M cap] w fun e w2 => ∃ go, e = .returned (.slice (some ⟨go, 0, none⟩) K K) ∧ Kept v w2 ∧ ∀ w, w.heap = w2.heap → Calls Try.prog 27 #[.slice (some ⟨C, 0, none⟩) K K, .slice (some ⟨go, 0, none⟩) K K] w fun e w' => e = .returned (.bool true) ∧ ∃ n, w' = w.drewN n := fun w hk => by
    have hA := hS.kept hk
    refine (rebuilt_any K M bc oc cap q bd od yv xs w (by omega) (by omega) (by omega) (by omega) hqL (fun i hi => by have := hA.fc.ix i (by omega); omega) hA.fc.co hA.fc.dat hA.inj hA.sol).mono ?_
    intro e w2 hr
    obtain ⟨go, h1, h2, h3⟩ := hA.same hr
    exact ⟨go, h1, hk.trans h2, h3⟩
  clear hS hqL
  unfold dr13 cr13 body13
  simp only [cSnd7, Try.f13, Option.getD_some]
  refine reachI_go goodF hD (by kernel_rfl) rfl sf13 fun R hR τ d' => ?_
  have hv1 : Kept v { v with tape := τ, drawn := d' } := (Kept.refl v).tape τ d'
  generalize { v with tape := τ, drawn := d' } = v1 at hv1 ⊢
  go_wp2_with (first | (go_at_call 21; (with_reducible refine (c1 _).mono ?_); rintro e w' ⟨rfl, hw'⟩; obtain rfl := hw'.symm))
  refine reachI_go goodF hD (by kernel_rfl) rfl sf13 fun R hR τ d' => ?_
  have hv2 : Kept v { v1 with tape := τ, drawn := d' } := hv1.tape τ d'
  generalize { v1 with tape := τ, drawn := d' } = v2 at hv2 ⊢
  go_wp2
  refine reachI_go goodF hD (by kernel_rfl) rfl sf13 fun R hR τ d' => ?_
  have hv3 : Kept v { v2 with tape := τ, drawn := d' } := hv2.tape τ d'
  generalize { v2 with tape := τ, drawn := d' } = v3 at hv3 ⊢
  go_wp2_with (first | (go_at_call 25; (with_reducible refine (c2 _ hv3).mono ?_); rintro e v4 ⟨rfl, hv4⟩))
  refine reachI_go goodF hD (by kernel_rfl) rfl sf13 fun R hR τ d' => ?_
  have hv5 : Kept v { v4 with tape := τ, drawn := d' } := hv4.tape τ d'
  generalize { v4 with tape := τ, drawn := d' } = v5 at hv5 ⊢
  go_wp2
  refine reachI_go goodF hD (by kernel_rfl) rfl sf13 fun R hR τ d' => ?_
  have hv6 : Kept v { v5 with tape := τ, drawn := d' } := hv5.tape τ d'
  generalize { v5 with tape := τ, drawn := d' } = v6 at hv6 ⊢
  go_wp2_with (first | (go_at_call 26; (with_reducible refine (c3 _ hv6).mono ?_); rintro e v7 ⟨go, rfl, hv7, c4⟩))
  refine reachI_go goodF hD (by kernel_rfl) rfl sf13 fun R hR τ d' => ?_
  have hv8 : Kept v { v7 with tape := τ, drawn := d' } := hv7.tape τ d'
  have c5 := c4 { v7 with tape := τ, drawn := d' } rfl
  clear c4
  generalize { v7 with tape := τ, drawn := d' } = v8 at hv8 c5 ⊢
  go_wp2_with (first | (go_at_call 22; (with_reducible refine (num_any _ _).mono ?_); rintro e w' ⟨rfl, hw'⟩; obtain rfl := hw'.symm) | (go_at_call 27; (with_reducible refine c5.mono ?_); rintro e v9 ⟨rfl, n9, hv9⟩; have hk9 : Kept v v9 := (by rw [hv9]; exact ⟨hv8.os, hv8.output, hv8.size, hv8.block⟩); clear hv9))
  refine reaI_ret (y := .tuple #[.slice (some ⟨C, 0, none⟩) K K, .bool true]) hD rfl Try.func13 (fun τ d => ?_) (back5 hD h5 fun T' v' h1 h2 => hend T' v' h1 (hk9.trans h2))
  exact results_tmp2 (fn := Try.f13) (t := 6) (u := 7) rfl _ _ _
end
end Go.Proofs.Ytkpcmfgeanlcnaa

/-
  The statement Rebuilds, from its call to its return: alone up to the fork, beside the workers, beside those that leave; and where nothing is started.
-/
namespace Go.Proofs.Ytkpcmfgeanlcnaa
open Go.RowKit Go.Deep Go.Lf Go.Conc Go.ConcN Go.Gh
open Go.ConcR (Payload WgAt wgBlock)

theorem F.gj_inj {K : Nat} {ix σ : Nat → Nat} {B : Nat → Nat → F} (hpl : Placed K ix σ) (hg : ∃ A, F.Gj K (mF K fun s => ix (σ s)) K A B) : F.Inj K (mF K ix) := by
  obtain ⟨A, hg⟩ := hg
  have z : ∀ r : Nat → F, F.dot K r (fun _ => 0) = 0 := fun r => by
    unfold F.dot
    exact F.sum_zero _ fun i _ => F.mu_zero _
  intro x hx i hi
  have h1 := (hg.same x (fun _ => 0)).2 (fun s hs => hx (σ s) (hpl.lt s hs)) i hi
  rw [z, F.dot_unit hi fun j hj => by rw [hg.left i j hi hj]] at h1
  exact h1

/-- Goroutine 0 stands at the fork. -/
def AtFork (Y : Nat → Option Obj) (v0 : World) (g : Goroutine) (W : World) : Prop :=
  ∃ (K N M bc oc cap : Nat) (q : CL) (bd od : Nat → Nat) (yv : Nat → Nat → Nat) (T5 T13 T18 T : Array Value) (σ : Nat → Nat) (bp bdv bD bv h2 ba C : Nat) (b2 : Nat → Nat) (B : Nat → Nat → F) (w2 v3 : World),
    g = G ((base 31).at ⟨T, []⟩ [.code c12]) [frame18 T18, frame13 T13, frame5 T5] ∧ Sim NoX Y W v3 ∧ T17 T5 ∧ T60 K N (.slice (some ⟨bc, oc, none⟩) M cap) T13 ∧ T20 T18 ∧ TPre bp K bdv bv ba T ∧ PF31 K q σ bp bdv bD bv h2 ba C b2 B v3 ∧ (∀ b, b < w2.heap.size → b < C) ∧
    FC K N M bc oc q bd od yv w2 ∧ Below v0.heap.size v0 w2 ∧ Below w2.heap.size w2 v3

theorem to_fork {K N M bc oc cap : Nat} {q : CL} {bd od : Nat → Nat} {yv : Nat → Nat → Nat} {v w : World} {Y : Nat → Option Obj} (hcap : M ≤ cap) (hS : FC K N M bc oc q bd od yv v) (hsim : Sim NoX Y w v) :
    ∃ g' W, AtFork Y v g' W ∧ Gets Try.prog NoX (G ((base 5).at ⟨#[.int .i64 (K : Int), .int .i64 (N : Int), .slice (some ⟨bc, oc, none⟩) M cap] ++ Array.replicate 14 undef, []⟩ [.code body5]) []) w g' W := by
  have hn := hS.num
  refine to_5 (Y := Y) (Φ := AtFork Y v) (fun T5 hT5 => ?_) w hsim
  refine to_13 fun T13 hT13 => ?_
  refine to_inner hS fun T18 w2 hT18 hb2 => ?_
  have hS2 := hS.keep hb2
  refine rebuild_gen (by omega) (by omega) hcap (fun i hi => by have := hS.ix i (by omega); omega) ⟨hS2.co.lt, fun i hi => hS2.co.c0 i (by omega), fun i hi => hS2.co.c1 i (by omega)⟩ (fun i j hi hj => hS.inj i j (by omega) (by omega)) fun σ bp bdv bD bv h2 ba C b2 B T w3 hTP hPF hlow hb3 => ?_
  refine rea_here fun W hW => ?_
  exact ⟨K, N, M, bc, oc, cap, q, bd, od, yv, T5, T13, T18, T, σ, bp, bdv, bD, bv, h2, ba, C, b2, B, w2, w3, rfl, hW, hT5, hT13, hT18, hTP, hPF, hlow, hS2, hb2, hb3⟩

set_option maxHeartbeats 1000000 in
set_option maxRecDepth 100000 in
theorem from_fork {Y : Nat → Option Obj} {w v W : World} {g0 g : Goroutine} (hsim : Sim NoX Y w v) (hat : AtFork Y v g W) (hG : Gets Try.prog NoX g0 w g W) : Ok Try.prog (fun v w' => v = .bool true ∧ Kept w w') (solo g0 w) #[] := by
  obtain ⟨K, N, M, bc, oc, cap, q, bd, od, yv, T5, T13, T18, T, σ, bp, bdv, bD, bv, h2, ba, C, b2, B, w2, v3, rfl, hW, hT5, hT13, hT18, hTP, hPF, hlow, hS2, hb2, hb3⟩ := hat
  obtain ⟨T', hTW, hG2⟩ := fork_alloc (cs := [frame18 T18, frame13 T13, frame5 T5]) W hTP
  have hG3 := (hG.avoid (Nat.le_refl _)).trans hG2
  letI : Payload := ⟨41⟩
  letI : Out0 := ⟨W.output, W.os⟩
  have hn := hS2.num
  have hnew := hPF.new
  have hsz := hW.size
  have hix : ∀ i, i < K → q.ix i < 128 := fun i hi => by have := hS2.ix i (by omega); omega
  have hEok : EnvOk (envS K q.L q σ bd od yv bp bdv bD bv h2 ba b2 B (fun b => (W.alloc (wgBlock link.tWg 0 0)).heap[b]?)) K q.L := envS_ok (by omega) hS2.qL (fun t ht => hix _ (hPF.pl.lt t ht)) hS2.dat.yl
  have hSF := sf_start rfl hW hS2.dat rfl hb3 hlow hPF
  have hSp := sp_start (cs := [frame18 T18, frame13 T13, frame5 T5]) hEok (hTW _ rfl rfl rfl rfl rfl rfl) hSF
  have hml := misN_le (envS K q.L q σ bd od yv bp bdv bD bv h2 ba b2 B (fun b => (W.alloc (wgBlock link.tWg 0 0)).heap[b]?)) K 0
  refine wholeI (ty := link.tWg) hG3 (Nat.lt_succ_self _) (by omega) (by omega) (by simp) (by unfold WgAt; rw [heap_new]) hSF.pay hSp ⟨fun _ _ _ _ r h => WPr.rely h r, fun _ _ _ _ r h => KR.rely h r⟩ (by omega) rfl rfl ?_
  intro ids a W' l ho hos hwk hK hp hres
  obtain ⟨T1, s0, j, ops, rfl, hTS, hSF', hids⟩ := hK
  obtain ⟨Y', v', hs', hk'⟩ := doctor W' (some W.heap.size) (fun b h => by
    cases h
    obtain ⟨st, sm, hw⟩ := hwk
    exact ⟨_, _, _, hw⟩)
  obtain ⟨⟨dN, hd⟩, hcell, hba⟩ := suf_of hW (by omega) hix hS2.dat hb3 hlow hPF hk' hwk hSF' hids hres
  have e1 : v'.heap.size = W'.heap.size := hs'.size.symm
  have e2 : W.heap.size + 1 ≤ W'.heap.size := Nat.le_trans hSF'.sb.2.1 hSF'.sb.2.2
  have e3 : w.heap.size ≤ W.heap.size := gets_size hG
  have e5 : w2.heap.size ≤ v'.heap.size := by have := hb3.size; omega
  have hAns : Ans K N M bc oc q bd od yv C dN (fun t m => xF K B yv σ t m) v' :=
    ⟨⟨hS2.num, hS2.qL, ⟨Nat.lt_of_lt_of_le hS2.co.lt e5, fun i hi => hcell (hS2.co.c0 i hi), fun i hi => hcell (hS2.co.c1 i hi)⟩, hS2.ix, hS2.inj, ⟨fun i hi => Nat.lt_of_lt_of_le (hS2.dat.lt i hi) e5, hS2.dat.here, fun i m hi hm => hcell (hS2.dat.y i m hi hm), hS2.dat.yl⟩⟩,
      fun t ht => (hd t ht).1, fun t m ht hm => (hd t ht).2 m hm, F.gj_inj hPF.pl hPF.gj, fun m _ i hi => mix_val hPF.pl hPF.gj hi⟩
  refine back31 (X := fun b => some b = some W.heap.size) (Y := Y') no_ev hTS hba hT18 (fun v1 hal => back13 no_ev hT5 hT13 (hAns.kept ⟨hal.2.1, hal.2.2, by rw [hal.1]; exact Nat.le_refl _, fun b _ => by rw [hal.1]⟩) (fun T' v'' ht hkv => ?_)) W' hs'.t
  refine reaI_done (y := .bool true) (fun e he => by simp at he) rfl Try.func5 (by kernel_rfl) (fun u => ?_) (fun w'' d hst hend => ?_)
  · rw [Sem.runT_eq, results_tmp (fn := Try.f5) (t := 6) rfl _ _ _, events_results_tmp (fn := Try.f5) (t := 6) rfl _ _, ht]
  · refine ⟨rfl, #[], by simp, fun d' => ⟨.bool true, hend d', rfl, ?_⟩⟩
    obtain ⟨τ, dd, hst⟩ := hst
    have hkv' : Kept v' v'' := Kept.trans ⟨hal.2.1, hal.2.2, by rw [hal.1]; exact Nat.le_refl _, fun b _ => by rw [hal.1]⟩ hkv
    have e1 : W'.heap.size ≤ w''.heap.size := by rw [hst.size, hs'.size]; exact hkv'.size
    refine ⟨?_, ?_, by show w.heap.size ≤ w''.heap.size; omega, fun b hb => ?_⟩
    · show w''.os = w.os
      rw [hst.os, show ({ v'' with tape := τ, drawn := dd } : World).os = v''.os from rfl, hkv'.os, ← hs'.os, hos]
      show W.os = w.os
      rw [hW.os, hb3.os, hb2.os, hsim.os]
    · show w''.output = w.output
      rw [hst.out, show ({ v'' with tape := τ, drawn := dd } : World).output = v''.output from rfl, hkv'.output, ← hs'.out, ho]
      show W.output = w.output
      rw [hW.out, hb3.output, hb2.output, hsim.out]
    · show w''.heap[b]? = w.heap[b]?
      have hbw : b < v.heap.size := by rw [← hsim.size]; exact hb
      have hbw2 : b < w2.heap.size := Nat.lt_of_lt_of_le hbw hb2.size
      have hbC : b < C := hlow b hbw2
      rw [Sim.agree hs' hst (fun e => by cases e; omega) (hkv'.block b (Nat.lt_of_lt_of_le hbw2 e5))]
      rw [show W'.heap[b]? = (W.alloc (wgBlock link.tWg 0 0)).heap[b]? from hSF'.low.std b (by omega) (by omega) (by omega), Below.heap_alloc _ _ _ (by omega)]
      exact Sim.agree hsim hW id ((hb3.block b hbw2).trans (hb2.block b hbw))

/-- Columns that were handed in, of whatever kind. -/
structure Cols (w : World) (bo : Option Addr) (m cap b o : Nat) (ix : Nat → Int) (db : Nat → Option Addr) (dl dc bd od : Nat → Nat) (yv : Nat → Nat → Nat) : Prop where
  mc : m ≤ cap
  mm : m ≤ 9223372036854775806
  here : 0 < m → bo = some ⟨b, o, none⟩ ∧ GC w b o m ix db dl dc
  lt : ∀ i, i < m → bd i < w.heap.size
  dat : ∀ i, i < m → 0 < dl i → db i = some ⟨bd i, od i, none⟩
  y : ∀ i j, i < m → j < dl i → w.cell? ⟨bd i, od i + j, none⟩ = some (.int .u8 ((yv i j : Nat) : Int))
  yl : ∀ i j, yv i j < 256
  dlb : ∀ i, i < m → dl i ≤ 140737488355328

set_option maxRecDepth 100000 in
theorem rebuilds_ok (k n : Int) {w : World} {bo : Option Addr} {m cap b o : Nat} {ix : Nat → Int} {db : Nat → Option Addr} {dl dc bd od : Nat → Nat} {yv : Nat → Nat → Nat} (hC : Cols w bo m cap b o ix db dl dc bd od yv) :
    Ok Try.prog (fun v w' => v = .bool true ∧ Kept w w') (solo (G (Frame.enter Try.prog 5 #[.int .i64 k, .int .i64 n, .slice bo m cap] .normal) []) w) #[] := by
  have lone : (Calls Try.prog 13 #[.int .i64 k, .int .i64 n, .slice bo m cap] w fun e w' => e = .returned (.tuple #[.slice none 0 0, .bool true]) ∧ Below w.heap.size w w') → Ok Try.prog (fun v w' => v = .bool true ∧ Kept w w') (solo (G (Frame.enter Try.prog 5 #[.int .i64 k, .int .i64 n, .slice bo m cap] .normal) []) w) #[] := fun h =>
    ok_of_calls (by kernel_rfl) ((rebs_of h).mono fun e w' h' => ⟨.bool true, h'.1, rfl, below_kept h'.2⟩)
  cases hf : fitB k n with
  | false => exact lone (reb_no1 k n _ hf w)
  | true =>
    have hf' : 1 ≤ k ∧ k ≤ n ∧ n ≤ 128 := of_decide_eq_true hf
    obtain ⟨K, rfl⟩ : ∃ K : Nat, k = (K : Int) := ⟨k.toNat, by omega⟩
    obtain ⟨N, rfl⟩ : ∃ N : Nat, n = (N : Int) := ⟨n.toNat, by omega⟩
    by_cases hno : K ≤ m ∧ FitTo N ix dl m
    · clear lone
      obtain ⟨hKm, hfit⟩ := hno
      obtain ⟨rfl, hG⟩ := hC.here (by omega)
      obtain ⟨Y, v, hsim, hc⟩ := doctor w none (fun b h => by cases h)
      have hX : (fun b => some b = (none : Option Nat)) = NoX := funext fun b => propext ⟨fun h => (by cases h), fun h => h.elim⟩
      rw [hX] at hsim
      have st : ∀ {b o : Nat} {u : Value}, w.cell? ⟨b, o, none⟩ = some u → v.cell? ⟨b, o, none⟩ = some u := fun {b o u} h4 => by
        have h5 := h4
        unfold World.cell? at h5
        cases e : w.heap[b]? with
        | none => simp only [e] at h5; cases h5
        | some x =>
          cases x with
          | cells c t fr =>
            have := hc b c t fr (by simp) e
            simp only [World.cell?, e] at h4
            simp only [World.cell?, this]
            exact h4
          | _ => simp only [e] at h5; cases h5
      have hsz := hsim.size
      have hixn : ∀ i, i < m → ((ix i).toNat : Int) = ix i := fun i hi => Int.toNat_of_nonneg (hfit i hi).1
      have hdl : ∀ i, i < m → dl i = dl 0 := fun i hi => (hfit i hi).2.2.1
      let q : CL := ⟨dl 0, fun i => (ix i).toNat, db, dc⟩
      have hFC : FC K N m b o q bd od yv v := by
        refine ⟨⟨by omega, by omega, by omega, hKm, hC.mm⟩, hC.dlb 0 (by omega), ⟨by rw [← hsz]; exact hG.lt, fun i hi => ?_, fun i hi => ?_⟩, fun i hi => ?_, fun i j hi hj hne => ?_, ⟨fun i hi => by rw [← hsz]; exact hC.lt i (by omega), fun i hi h => hC.dat i (by omega) (by rw [hdl i (by omega)]; exact h), fun i j hi hj => st (hC.y i j (by omega) (by rw [hdl i (by omega)]; exact hj)), hC.yl⟩⟩
        · have := st (hG.c0 i hi)
          rw [← hixn i hi] at this
          exact this
        · have := st (hG.c1 i hi)
          rw [hdl i hi] at this
          exact this
        · have h1 := hixn i hi
          have h2 := (hfit i hi).2.1
          show (ix i).toNat < N
          omega
        · have h1 := hixn i hi
          have h2 := hixn j hj
          show (ix i).toNat ≠ (ix j).toNat
          intro e
          rcases Nat.lt_or_ge i j with h | h
          · exact (hfit j hj).2.2.2 i h (by omega)
          · exact (hfit i hi).2.2.2 j (by omega) (by omega)
      obtain ⟨g, W, hat, hGe⟩ := to_fork hC.mc hFC hsim
      have e : Frame.enter Try.prog 5 #[.int .i64 (K : Int), .int .i64 (N : Int), .slice (some ⟨b, o, none⟩) m cap] .normal = (base 5).at ⟨#[.int .i64 (K : Int), .int .i64 (N : Int), .slice (some ⟨b, o, none⟩) m cap] ++ Array.replicate 14 undef, []⟩ [.code body5] := by
        rw [enter_at _ Try.func5 (c := body5) (by kernel_rfl), show Try.f5.ntmps - (#[Value.int .i64 (K : Int), .int .i64 (N : Int), .slice (some ⟨b, o, none⟩) m cap] : Array Value).size = 14 from by rw [Try.ntmps5]; rfl]
      rw [e]
      exact from_fork hsim hat hGe
    · exact lone (reb_no2 K N m cap b o bo ix db dl dc w (by omega) (by omega) (by omega) hC.mm hC.here hno)
end Go.Proofs.Ytkpcmfgeanlcnaa
#print axioms Go.Proofs.Ytkpcmfgeanlcnaa.rebuilds_ok

/-
  cairnlaw.sameBlobs: run alone. That what the program tells of shards is what the document tells.
-/
import Derived.Test.YtlghjjennhpjeaaGreatDoorDyB
import Derived.Test.YtlghjjennhpjeaaGreatDoorSmG
namespace Go.Proofs.YtlghjjennhpjeaaGreatDoor
open Go.RowKit Go.Deep Go.Hp

set_option maxHeartbeats 4000000 in
set_option maxRecDepth 100000 in
theorem sameBlobsL_any (m ca cb : Nat) (ba bb : Option Addr) (ns D : Nat → List UInt8) (va vb : Nat → Value) (w : World) (hm : m ≤ 1048576) (ha : BlS w ba m ns D va) (hb : BlS w bb m ns D vb) :
    Calls Tryz.prog 8 #[.slice ba m ca, .slice bb m cb] w fun r w' => r = .returned (.bool true) ∧ Below w.heap.size w w' := by
  go_enter Tryz.func8, Tryz.ntmps8
  go_wp2
  go_loopw [5] (fun vi wr => ∃ j : Nat, j ≤ m ∧ vi = .int .i64 (j : Int) ∧ ∃ q, wr = w.drewN q) (fun vi _ => m - (intOf vi).toNat)
  case atStart => exact ⟨0, by omega, rfl, 0, rfl⟩
  case round =>
    obtain ⟨j, hj, rfl, hw⟩ := hrel
    have up : ∀ {p : Addr} {u : Value}, w.cell? p = some u → wr.cell? p = some u := fun {p u} h => by obtain ⟨m, rfl⟩ := hw; exact h
    have lup : ∀ {v : Value} {xs : List Value}, Lies w v xs → Lies wr.drew v xs := fun {v xs} h => by obtain ⟨m, rfl⟩ := hw; exact (h.drewN m).below (Below.refl _ _).drew
    by_cases hlt : j < m
    · have hlt' : (j : Int) < (m : Int) := by omega
      obtain ⟨b, o, rfl, hc⟩ := ha.cells (by omega)
      obtain ⟨b', o', rfl, hc'⟩ := hb.cells (by omega)
      obtain ⟨c0, c1⟩ := hc j hlt
      obtain ⟨d0, d1⟩ := hc' j hlt
      replace c0 := up c0
      replace c1 := up c1
      replace d0 := up d0
      replace d1 := up d1
      have kS := sameB_any (va j) (vb j) (D j) wr.drew (lup (ha.dat j hlt)) (lup (hb.dat j hlt))
      obtain ⟨pa, xa, ea⟩ := (ha.dat j hlt).len
      obtain ⟨pb, xb, eb⟩ := (hb.dat j hlt).len
      rw [ea] at c1 kS
      rw [eb] at d1 kS
      clear ha hb hc hc' ea eb lup
      generalize (u8V (D j)).length = ld at *
      generalize ns j = nj at *
      go_wp2_with fail
      go_region_held3 (fun w' => w'.cell? ⟨b, o + j * 2 + 1, none⟩ = some (.slice pa ld xa) ∧ w'.cell? ⟨b', o' + j * 2 + 1, none⟩ = some (.slice pb ld xb)) (go_keep)
        ((first | (go_at_call 18; (with_reducible refine kS.mono ?_); rintro r w2 ⟨rfl, hw2⟩; obtain rfl := hw2.symm)))
      go_wp2_with fail
      go_region
      go_wp2
      go_roundw
      case rel => exact ⟨j + 1, by omega, by go_num, drew_on (drew_on hw)⟩
      case measure => simp [intOf]; omega
    · obtain rfl : j = m := by omega
      have hnl : ¬ ((j : Int) < (j : Int)) := by omega
      go_wp2
      go_ret
      obtain ⟨q, rfl⟩ := hw
      exact ⟨rfl, below_drewN (Below.refl _ _) q⟩
theorem bls_cb {ns : List (List UInt8)} {sz : List Nat} {l : List UInt8} {g : Nat} {vd : Nat → Value} {w : World} (h : CB ns sz l g ns.length vd w) : BlS w (some ⟨g, 0, none⟩) ns.length (fun i => ns.getD i []) (pcB sz l) vd := by
  refine ⟨fun _ => ⟨g, 0, rfl, fun i hi => ?_⟩, fun i hi => Lies.owned (h.dat i hi)⟩
  have c0 := h.row.cell (i := i * 2) (by omega)
  have c1 := h.row.cell (i := i * 2 + 1) (by omega)
  simp only [show i * 2 / 2 = i by omega, show (i * 2 + 1) / 2 = i by omega, hi, if_true, show i * 2 % 2 = 0 by omega, show ¬ (i * 2 + 1) % 2 = 0 by omega, if_false] at c0 c1
  rw [Nat.zero_add]
  exact ⟨c0, c1⟩
theorem bls_blr {B : Nat} {ns : List (List UInt8)} {sz : List Nat} {l : List UInt8} {f : Nat → Ent} {vo : Value} {w : World} (h : BlR B ns sz l ns.length f vo w) : ∃ bo cap, vo = .slice bo ns.length cap ∧ BlS w bo ns.length (fun i => ns.getD i []) (pcB sz l) (fun i => (f i).d) := by
  obtain ⟨bo, cap, e, _, _, hB⟩ := BC.of_owns h.row
  refine ⟨bo, cap, e, fun hm => ?_, fun i hi => lies_owns (h.dat i hi).2⟩
  obtain ⟨b, o, h1, _, h3⟩ := hB.here hm
  refine ⟨b, o, h1, fun i hi => ⟨?_, (h3 i hi).2⟩⟩
  rw [← (h.dat i hi).1]
  exact (h3 i hi).1
/-- What the program tells is what the document tells. -/
theorem dec_doc {M : Nat} {sh : Nat → Shd} {g : Nat → Nat} {vb vb' : Value} {er e' : Nat} {w w' : World} (hP : Prm M g) (hsr : ∀ i, i + 1 < M → (sh (g i)).i ≤ (sh (g (i + 1))).i) (hR : DecR M (fun i => sh (g i)) vb er w) (hD : DocR M sh vb' e' w') :
    er = e' ∧ ((vb = .slice none 0 0 ∧ vb' = .slice none 0 0) ∨ ∃ l gb vd B f, 0 < M ∧ vb = .slice (some ⟨gb, 0, none⟩) (sh 0).names.length (sh 0).names.length ∧ CB (sh 0).names (sh 0).sizes l gb (sh 0).names.length vd w ∧ BlR B (sh 0).names (sh 0).sizes l (sh 0).names.length f vb' w') := by
  have tg : ∀ {e e'}, TogE M (fun i => sh (g i)) e → TogD M sh e' → e = e' := fun h1 h2 => tog_same hP hsr h1 h2
  have al : TogD M sh 0 → AllD M sh ∧ 0 < M := fun h => by
    rcases h with ⟨h, _⟩ | ⟨h, _⟩ | ⟨h, _⟩ | ⟨_, hA, _, h0, _⟩
    · cases h
    · cases h
    · cases h
    · exact ⟨hA, h0⟩
  rcases hR with ⟨h1, rfl, h2 | ⟨rfl, h2, h3⟩⟩ | ⟨rfl, h2, l, gb, vd, hF, _, rfl, hC⟩
  · rcases hD with ⟨_, d2, rfl⟩ | ⟨d1, _⟩
    · exact ⟨tg h2 d2, .inl ⟨rfl, rfl⟩⟩
    · exact absurd (tg h2 d1) h1
  · rcases hD with ⟨d1, d2, _⟩ | ⟨d1, l, _, ⟨_, d3, _⟩ | ⟨rfl, _, rfl⟩⟩
    · exact absurd (tg h2 d2).symm d1
    · obtain ⟨hA, h0⟩ := al d1
      exact absurd ⟨l, (fits_same hP hA h0 l).2 d3⟩ h3
    · exact ⟨rfl, .inl ⟨rfl, rfl⟩⟩
  · rcases hD with ⟨d1, d2, _⟩ | ⟨d1, l', hu, hd⟩
    · exact absurd (tg h2 d2).symm d1
    · obtain ⟨hA, h0⟩ := al d1
      have hF' := (fits_same hP hA h0 l).1 hF
      obtain rfl := hu l hF'
      rcases hd with ⟨rfl, _, B, f, d3⟩ | ⟨_, d3, _⟩
      · obtain ⟨_, _, _, a4, a5⟩ := alld_eq hA (hP.lt 0 h0)
        dsimp only at hC
        rw [a4, a5] at hC
        exact ⟨rfl, .inr ⟨l', gb, vd, B, f, h0, by rw [← a4], hC, d3⟩⟩
      · exact absurd hF' d3
/-- Two lists of blobs that are alike, where they lie. -/
def Two (w : World) (va vb : Value) : Prop := ∃ m ca cb ba bb ns D xa xb, m ≤ 1048576 ∧ va = .slice ba m ca ∧ vb = .slice bb m cb ∧ BlS w ba m ns D xa ∧ BlS w bb m ns D xb
theorem two_of {M : Nat} {sh : Nat → Shd} {g : Nat → Nat} {vb vb' : Value} {er e' : Nat} {w w' : World} (hG : ∀ i, i < M → ShG (sh i)) (hP : Prm M g) (hsr : ∀ i, i + 1 < M → (sh (g i)).i ≤ (sh (g (i + 1))).i) (hR : DecR M (fun i => sh (g i)) vb er w) (hD : DocR M sh vb' e' w') (hs : Sub w w') : er = e' ∧ Two w' vb vb' := by
  obtain ⟨h1, ⟨rfl, rfl⟩ | ⟨l, gb, vd, B, f, h0, rfl, hC, hB⟩⟩ := dec_doc hP hsr hR hD
  · have hn : BlS w' none 0 (fun _ => []) (fun _ => []) (fun _ => undef) := ⟨fun h => absurd h (by omega), fun i hi => absurd hi (by omega)⟩
    exact ⟨h1, 0, 0, 0, none, none, _, _, _, _, by omega, rfl, rfl, hn, hn⟩
  · obtain ⟨bo, cap, rfl, h2⟩ := bls_blr hB
    have := (hG 0 h0).few.blobs
    have : (sh 0).names.length ≤ 1000 := this
    exact ⟨h1, _, _, _, _, _, _, _, _, _, by omega, rfl, rfl, bls_cb (hC.sub hs), h2⟩
end Go.Proofs.YtlghjjennhpjeaaGreatDoor

/-
  decoded behind cairn.Decode, to its return.
-/
namespace Go.Proofs.YtlghjjennhpjeaaGreatDoor
open Go.RowKit Go.Deep Go.Lf Go.Conc Go.Hp

section
variable {X : Nat → Prop} {Y : Nat → Option Obj} {D : Nat → World → Array Event → Prop} {Stop : Goroutine → World → Prop} {w : World} {cs : List Frame} {fr : Frame} {T : Array Value} {n cap gv er : Nat} {bi : Option Addr} {bs : Nat → List UInt8} {vi : Nat → Value} {g : Nat → Nat} {vb : Value}
theorem SlC.sub {w w' : World} (h : SlC w bi n bs vi) (hs : Sub w w') : SlC w' bi n bs vi := ⟨h.sl.sub hs, fun i hi => by
  obtain ⟨g, c, a1, a2, a3, a4⟩ := h.at_ i hi
  exact ⟨g, c, a1, a2, Nat.lt_of_lt_of_le a3 hs.1, a4⟩⟩
set_option maxHeartbeats 8000000 in
set_option maxRecDepth 100000 in
theorem dy_tail (hDk : Dok X D) (hT : TOd2 (.slice bi n cap) vb (.slice (some ⟨gv, 0, none⟩) n n) (.int .i64 ((er : Nat) : Int)) T) (hS : SlC w bi n bs vi) (hn : n ≤ 1048576) (hver : ∀ i, i < n → w.cell? ⟨gv, i, none⟩ = some (.int .i64 ((erS (bs i) : Nat) : Int))) (hP : Prm (tkL bs n).length g) (hsr : ∀ i, i + 1 < (tkL bs n).length → (shAt (tkL bs n) (g i)).i ≤ (shAt (tkL bs n) (g (i + 1))).i) (hR : DecR (tkL bs n).length (fun i => shAt (tkL bs n) (g i)) vb er w)
    (hnext : ∀ w', Bel w.heap.size w w' → ∀ z, SimT X Y z w' → GoesI Tryz.prog D Stop (G (fr.finish (.tuple #[vb, .slice (some ⟨gv, 0, none⟩) n n, .bool true])) cs) z) :
    ReaI Tryz.prog X Y D Stop 4 (fr :: cs) [.code dy2] ⟨T, []⟩ w := by
  refine reaI_tail goodA hDk (by kernel_rfl) Tryz.func4 (R := fun y w' => y = .tuple #[vb, .slice (some ⟨gv, 0, none⟩) n n, .bool true] ∧ Bel w.heap.size w w') (fun τ d => ?_) (fun y v' ⟨h1, h2⟩ => h1 ▸ hnext v' h2)
  have bl : Bel w.heap.size w { w with tape := τ, drawn := d } := (Bel.refl _ w).tp τ d
  have hsub : Sub w { w with tape := τ, drawn := d } := bel_sub bl
  have kD := decode_ref n cap bi bs vi _ (hS.sub hsub) hn
  have two := fun (vb' : Value) (e' : Nat) (w' : World) (h1 : DocR (tkL bs n).length (shAt (tkL bs n)) vb' e' w') (h2 : Sub w w') => two_of (fun i hi => tkL_good bs n _ (by simp [shAt, List.getD_eq_getElem?_getD, List.getElem?_eq_getElem hi])) hP hsr hR h1 h2
  clear hS hP hsr hR
  generalize ({ w with tape := τ, drawn := d } : World) = wA at bl hsub kD ⊢
  obtain ⟨f, rfl⟩ := hT
  unfold Tod
  conv in dy2 => simp only [dy2, dy1, dyBody, gSnd, Tryz.f4, Option.getD_some]
  go_upto_region 3 with (first | (go_at_call 6; (with_reducible refine kD.mono ?_); rintro r w1 ⟨hb1, vb', vt', e', rfl, ht1, hD1⟩))
  have hs1 := hsub.trans (bel_sub (Bel.of hb1))
  obtain ⟨rfl, m, ca, cb, ba, bb, ns, Da, xa, xb, hm, rfl, rfl, hA, hB⟩ := two _ _ _ hD1 hs1
  have bl1 := bl.trans (Bel.of hb1) bl.size'
  have hL1 := lies_owns ht1
  obtain ⟨bt, ct, rfl⟩ := owns_form ht1
  have hv1 := fun i hi => hs1.cell (hver i hi)
  clear kD two hD1 ht1 hver hsub hs1 hb1 bl
  have kN := numL_any (er : Int)
  go_wp2_with (first | (go_at_call 7; (with_reducible refine (kN _).mono ?_); rintro r w2 ⟨rfl, hw2⟩; obtain rfl := hw2.symm))
  clear kN
  go_loopw [11] (fun vj wr => ∃ j : Nat, j ≤ n ∧ vj = .int .i64 (j : Int) ∧ ∃ q, wr = w1.drewN q) (fun vj _ => n - (intOf vj).toNat)
  case atStart => exact ⟨0, by omega, rfl, 0, rfl⟩
  case round =>
    obtain ⟨j, hj, rfl, hw⟩ := hrel
    have up : ∀ {p : Addr} {u : Value}, w1.cell? p = some u → wr.cell? p = some u := fun {p u} h => by obtain ⟨m, rfl⟩ := hw; exact h
    by_cases hlt : j < n
    · have hlt' : (j : Int) < (n : Int) := by omega
      have c1 : wr.cell? ⟨gv, j, none⟩ = some (.int .i64 ((erS (bs j) : Nat) : Int)) := up (hv1 j hlt)
      obtain ⟨b, o, rfl, c2⟩ := hL1.get (natV_at (l := verL bs n) (j := j) (by rw [verL_len]; exact hlt))
      rw [show (verL bs n).getD j 0 = erS (bs j) by simp [verL, List.getD_eq_getElem?_getD, hlt]] at c2
      replace c2 := up c2
      clear hv1 hL1
      generalize erS (bs j) = ej at *
      have kN := numL_any (ej : Int)
      go_wp2_with fail
      go_region_held3 (fun w' => w'.cell? ⟨gv, j, none⟩ = some (.int .i64 (ej : Int)) ∧ w'.cell? ⟨b, o + j, none⟩ = some (.int .i64 (ej : Int))) (go_keep)
        ((first | (go_at_call 7; (with_reducible refine (kN _).mono ?_); rintro r w2 ⟨rfl, hw2⟩; obtain rfl := hw2.symm)))
      go_wp2
      exact ⟨⟨j + 1, by omega, by simp, drew_on hw⟩, by simp [intOf]; omega⟩
    · obtain rfl : j = n := by omega
      have hnl : ¬ ((j : Int) < (j : Int)) := by omega
      have bl2 : Bel w.heap.size w wr := by obtain ⟨q, rfl⟩ := hw; exact bl1.trans (Bel.of (below_drewN (Below.refl _ _) q)) bl1.size'
      have gA : BlS wr ba m ns Da xa := by obtain ⟨q, rfl⟩ := hw; exact ⟨hA.cells, fun i hi => (hA.dat i hi).drewN q⟩
      have gB : BlS wr bb m ns Da xb := by obtain ⟨q, rfl⟩ := hw; exact ⟨hB.cells, fun i hi => (hB.dat i hi).drewN q⟩
      have kS := sameBlobsL_any m ca cb ba bb ns Da xa xb wr hm gA gB
      go_wp2_with (first | (go_at_call 8; (with_reducible refine kS.mono ?_); rintro r w2 ⟨rfl, hb2⟩))
      go_ret3
      exact ⟨_, rfl, rfl, bl2.trans (Bel.of hb2) bl2.size'⟩
end
end Go.Proofs.YtlghjjennhpjeaaGreatDoor

/-
  The statement Decodes, from its call to its return.
-/
namespace Go.Proofs.YtlghjjennhpjeaaGreatDoor
open Go.RowKit Go.Deep Go.Lf Go.Conc Go.ConcN Go.Gh Go.Hp

section
variable {X : Nat → Prop} {Y : Nat → Option Obj} {D : Nat → World → Array Event → Prop} {Stop : Goroutine → World → Prop} {w : World} {T : Array Value}
set_option maxHeartbeats 8000000 in
set_option maxRecDepth 100000 in
theorem dz_end (hDk : Dok X D) (hT : TSd2 (.bool true) T)
    (hfin : ∀ (T' : Array Value) (kk : List Item) (w' : World), T'.getD 2 undef = .bool true → Bel w.heap.size w w' → ReaR Tryz.prog X Y D Stop none [] 3 [] (.code .ret :: kk) T' w') :
    ReaR Tryz.prog X Y D Stop none [] 3 [] [.code dz4] T w := by
  obtain ⟨g, rfl⟩ := hT
  unfold Tsd
  rw [dz4_eq]
  refine reaR_split hDk (reaR_go goodA hDk (by kernel_rfl) sfdz fun R hR τ d => ?_)
  have bl : Bel w.heap.size w { w with tape := τ, drawn := d } := (Bel.refl _ w).tp τ d
  generalize ({ w with tape := τ, drawn := d } : World) = wA at bl ⊢
  simp only [dz4, dz3, gFst, gSnd, dzBody, Tryz.f3, Option.getD_some]
  go_wp2
  refine hfin _ _ _ ?_ bl
  rfl
end
set_option maxHeartbeats 1000000 in
set_option maxRecDepth 100000 in
theorem decodes_ok {w : World} {bo : Option Addr} {cap : Nat} {bl : List (List UInt8)} {a : Addr} (hL : Lies w (.slice bo bl.length cap) (nameV bl)) (hn : bl.length ≤ 1048576) (hl : ∀ i, i < bl.length → (bl.getD i []).length ≤ 1048576) (hG : Gl a w) :
    Ok Tryz.prog (fun v w' => v = .bool true ∧ Kz w.heap.size w w') (solo (G (Frame.enter Tryz.prog 3 #[.slice bo bl.length cap] .normal) []) w) #[] := by
  obtain ⟨Y, v, hsim, hcl⟩ := doctorX w (fun _ => False) (fun b h => h.elim)
  have hsub : Sub w v := ⟨by rw [hsim.size]; exact Nat.le_refl _, fun b cc t fr h => hcl b cc t fr (fun x => x) h⟩
  have hsz : w.heap.size = v.heap.size := hsim.size
  have e : Frame.enter Tryz.prog 3 #[.slice bo bl.length cap] .normal = (base 3).at ⟨#[.slice bo bl.length cap] ++ Array.replicate 28 undef, []⟩ [.code dzBody] := by
    rw [enter_at _ Tryz.func3 (c := dzBody) (by kernel_rfl), show Tryz.f3.ntmps - (#[.slice bo bl.length cap] : Array Value).size = 28 from by rw [Tryz.ntmps3]; rfl]
  rw [e]
  have hB0 : Bes Tryz.prog (ShunX fun _ => False) 0 #[G ((base 3).at ⟨#[.slice bo bl.length cap] ++ Array.replicate 28 undef, []⟩ [.code dzBody]) []] w #[] (fun _ => 0) :=
    bes_solo (fun op h => by simp at h) (fun op h => by simp at h) (fun op h => by simp at h) rfl
  let St : Goroutine → World → Prop := fun gr W => ∃ (T T2 : Array Value) (vl : Value) (vi : Nat → Value) (v1 : World), TSd1 vl T ∧ TOd1 vl T2 ∧ LJ v (fun i => bl.getD i []) bl.length vi vl v1 ∧ gr = G ((base 5).at ⟨#[vl] ++ Array.replicate 55 undef, []⟩ [.code dcBody]) [frOd T2, frSd T] ∧ SimT (fun _ => False) Y W v1
  have key := dz_first (Stop := St) (Y := Y) (dokX (fun _ => False)) (hsub.lies hL) hn (fun T vl vi v1 a1 a2 => dz_into (dokX _) a1 fun T' a1' => dy_into (dokX _) fun T2 a3 y hy => .stop fun d => ⟨T', T2, vl, vi, v1, a1', a3, a2, rfl, hy.at d⟩)
  refine late (Fin := Ok Tryz.prog _) (Shun := ShunX fun _ => False) (e := 0) ok_pre (fun _ _ _ h => h) (fun gs1 a1 W1 sl1 t1 q1 h01 hst hB1 => ?_) (key w hsim.t) w.drawn _ none #[] _ rfl hB0
  obtain ⟨T, T2, vl, vi, v1, hT1, hT2, hJ, rfl, hs1⟩ := hst W1.drawn
  replace hs1 : SimT (fun _ => False) Y W1 v1 := hs1
  clear key hst
  have hz1 := kz_sim hsim.t hs1 hJ.bel (fun b h => h.elim)
  rw [← hsz] at hz1
  have hG1 : Gl a v1 := (hG.sub hsub).sub (bel_sub hJ.bel)
  obtain ⟨bi, cp, rfl, hS1⟩ := hJ.slc hl
  refine decode_call ok_pre h01 hB1 hs1 hS1.sl hn hG1 (by omega) ?_
  intro e4 g4 vb4 er4 gv4 X4 gs4 W4 sl4 t4 q4 Y4 v4 he4 hP4 hsr4 h04 hB4 hs4 hXa hXb hsub4 hkp4 hver4 hR4
  have hz4 := hz1.trans (hkp4.kz (h0 := w.heap.size) (fun b h => h.elim) hz1.size)
  have hX4 : ∀ b, X4 b → w.heap.size ≤ b := fun b hb => (hXb b hb).elim (fun h => h.elim) fun h => Nat.le_trans hz1.size h
  have hv4 : v.heap.size ≤ v4.heap.size := Nat.le_trans hJ.bel.size' hsub4.1
  refine ok_late h04 hB4 (dy_back (dokX X4) hT2 (fun T5 hT5 => reaR_I.2 (dy_tail (dokX X4) hT5 (hS1.sub hsub4) hn hver4 hP4 hsr4 hR4 fun w5 hb5 => dz_back (dokX X4) hT1 fun T6 hT6 => dz_end (dokX X4) hT6 fun T' kk w' h2 hbl => ?_)) W4 hs4)
  refine reaR_done (dokX _) Tryz.func3 (by kernel_rfl) (y := .bool true) (fun u => ?_) (fun u d hst' hend => ?_)
  · rw [Sem.runT_eq, results_tmp (fn := Tryz.f3) (t := 2) rfl _ _ _, events_results_tmp (fn := Tryz.f3) (t := 2) rfl _ _, h2]
  · refine ⟨rfl, #[], by simp, fun d' => ⟨.bool true, hend d', rfl, ?_⟩⟩
    have := kz_sim hs4 hst' (h0 := w.heap.size) ((hb5.trans (hbl.mono hb5.size') (Nat.le_refl _)).mono (by omega)) hX4
    exact hz4.trans ⟨this.os, this.output, this.size, this.block⟩
end Go.Proofs.YtlghjjennhpjeaaGreatDoor

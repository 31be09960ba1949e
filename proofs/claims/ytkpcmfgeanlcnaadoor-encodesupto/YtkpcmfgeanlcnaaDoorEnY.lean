/-
  From the join back: archive.Encode, Encode, encoded, the statement: beside those that leave.
-/
import Derived.Test.YtkpcmfgeanlcnaaDoorEnX
namespace Go.Proofs.YtkpcmfgeanlcnaaDoor
open Go.RowKit Go.Deep Go.Lf Go.Conc Go.Hp

/-- The document's Encode where all is well. -/
theorem encW {K N C m cap : Nat} {bo : Option Addr} {f g : Nat → Ent} {d : Ent → List UInt8} {v : World} (hA : Args v bo m cap f d) (hP : ParamsOk (K : Int) (N : Int) (C : Int)) (hNf : NamesFit m f) (hR : Rearr m f g) (hlt : ∀ i, i + 1 < m → Hp.lt (g i).k (g (i + 1)).k = true) (hFw : FewOk (namesOf m g) (sizesOf m g)) :
    Calls Tryd.prog 19 #[.slice bo m cap, .agg #[.int .i64 ((K : Nat) : Int), .int .i64 ((N : Nat) : Int), .int .i64 ((C : Nat) : Int)]] v fun e w' => ∃ go cg, e = .returned (.tuple #[.slice (some ⟨go, 0, none⟩) N cg, .int .i64 0]) ∧ EncOut K N C m g d w' go ∧ Below v.heap.size v w' := by
  refine (encR_any (K : Int) (N : Int) (C : Int) m cap bo f d v hA.hm hA.hcap hA.hbo hA.hk hA.hl hA.bc hA.dat).mono ?_
  rintro e w' ⟨hb, hor⟩
  rcases hor with ⟨h, _⟩ | ⟨_, h, _⟩ | ⟨_, f2, h1, h2, h3, h4⟩
  · exact absurd hP h
  · exact absurd hNf h
  · have es := sorted_one hR h1 hlt h2
    rw [names_same es, sizes_same es] at h4
    rcases h4 with ⟨h, _⟩ | ⟨_, go, cg, rfl, hE⟩
    · exact absurd hFw h
    · refine ⟨go, cg, by simp, ?_, hb⟩
      simp only [Int.toNat_natCast] at hE
      unfold EncOut at hE ⊢
      rw [names_same es, sizes_same es, join_same (d := d) m es] at hE
      exact hE

section
variable {X : Nat → Prop} {Y : Nat → Option Obj} {D : Array Event → Prop} {Stop : Goroutine → World → Prop} {v : World} {cs : List Frame} {cfr : Frame}
set_option maxHeartbeats 8000000 in
set_option maxRecDepth 100000 in
theorem backA (hD : ∀ w es, EvsP X w es → D es) {pc bh Cc N : Nat} {vn vs vm x : Value} {T : Array Value} {rest : List Nat} (hT : TA pc vn vs vm (.slice (some ⟨bh, 0, none⟩) N N) x T) (hL : Left x rest)
    (hnext : ∀ T, TL pc bh Cc N vn vs vm 0 T → ReaR Tryd.prog X Y D Stop none [] 32 cs [.code aLoop, .inLoop aLoop, .inBlock 0, .code aRest] T v) :
    ∀ w, SimT X Y w v → GoesI Tryd.prog D Stop (G ((frameA T rest).finish (.slice (some ⟨Cc, 0, none⟩) N N)) cs) w := by
  rw [show frameA T rest = Dn none [] 32 T (.inRegion aO6 (6 :: rest) :: [.code (.block 0 (.loop aLoop)), .code aRest]) from rfl]
  rw [Dn_finish (by simp only [aO6, qa6]; rfl)]
  show ReaR _ _ _ _ _ _ _ _ _ _ _ _
  obtain ⟨f, rfl⟩ := hT
  walk_nrm
  rcases hL with ⟨rfl, rfl⟩ | rfl | rfl
  · refine reaR_op goodF hD (.int .i64 ((N : Nat) : Int)) (by simp only [aO6, qa6]; rfl) rfl (by kernel_rfl) (fun z _ => by go_simp) ?_
    walk_nrm
    exact reaR_endReg hD (reaR_block hD (reaR_loop hD (hnext _ (tl_mk rfl))))
  · refine reaR_op goodF hD (.int .i64 ((N : Nat) : Int)) (by simp only [aO6, qa6]; rfl) rfl (by kernel_rfl) (fun z _ => by go_simp) ?_
    walk_nrm
    refine reaR_op goodF hD (.int .i64 0) (by simp only [aO6, qa6]; rfl) rfl (by kernel_rfl) (fun z _ => by go_simp) ?_
    walk_nrm
    exact reaR_endReg hD (reaR_block hD (reaR_loop hD (hnext _ (tl_mk rfl))))
  · refine reaR_op goodF hD (.int .i64 0) (by simp only [aO6, qa6]; rfl) rfl (by kernel_rfl) (fun z _ => by go_simp) ?_
    walk_nrm
    refine reaR_op goodF hD (.int .i64 ((N : Nat) : Int)) (by simp only [aO6, qa6]; rfl) rfl (by kernel_rfl) (fun z _ => by go_simp) ?_
    walk_nrm
    exact reaR_endReg hD (reaR_block hD (reaR_loop hD (hnext _ (tl_mk rfl))))

set_option maxHeartbeats 8000000 in
set_option maxRecDepth 100000 in
theorem backEn (hD : ∀ w es, EvsP X w es → D es) {T : Array Value} (hT : T28 T) {vh : Value}
    (hnext : ∀ w, SimT X Y w v → GoesI Tryd.prog D Stop (G (cfr.finish (.tuple #[vh, .int .i64 0])) cs) w) :
    ∀ w, SimT X Y w v → GoesI Tryd.prog D Stop (G ((frameen T).finish (.tuple #[vh, .bool true])) (cfr :: cs)) w := by
  rw [show frameen T = Dn none [] 18 T (.inRegion enO [2, 3, 4, 5, 6, 7] :: [.code enD]) from rfl]
  rw [Dn_finish (by simp only [enO, qen]; rfl)]
  show ReaR _ _ _ _ _ _ _ _ _ _ _ _
  obtain ⟨f, rfl⟩ := hT
  walk_nrm
  refine reaR_op goodF hD (.tuple #[vh, .bool true]) (by simp only [enO, qen]; rfl) rfl (by kernel_rfl) (fun z _ => by go_simp) ?_
  walk_nrm
  refine reaR_op goodF hD vh (by simp only [enO, qen]; rfl) rfl (by kernel_rfl) (fun z _ => by go_simp) ?_
  walk_nrm
  refine reaR_op goodF hD (.bool true) (by simp only [enO, qen]; rfl) rfl (by kernel_rfl) (fun z _ => by go_simp) ?_
  walk_nrm
  refine reaR_op goodF hD vh (by simp only [enO, qen]; rfl) rfl (by kernel_rfl) (fun z _ => by go_simp) ?_
  walk_nrm
  refine reaR_op goodF hD (.bool true) (by simp only [enO, qen]; rfl) rfl (by kernel_rfl) (fun z _ => by go_simp) ?_
  walk_nrm
  refine reaR_endReg hD ?_
  unfold enD enC enBody
  simp only [gSnd, Tryd.f18, Option.getD_some]
  refine reaR_split hD (reaR_go goodF hD (by kernel_rfl) sfen fun R hR τ d => ?_)
  go_wp2
  change ReaR _ _ _ _ _ _ _ _ _ _ _ v
  refine reaR_split hD (reaR_go goodF hD (by kernel_rfl) sfen fun R hR τ d => ?_)
  go_wp2
  change ReaR _ _ _ _ _ _ _ _ _ _ _ v
  refine reaI_ret (a := ⟨_, []⟩) hD rfl Tryd.func18 (fun τ d => results_tmp2 (fn := Tryd.f18) (t := 4) (u := 5) rfl _ _ _) ?_
  exact hnext

set_option maxHeartbeats 8000000 in
set_option maxRecDepth 100000 in
theorem backEs (hD : ∀ w es, EvsP X w es → D es) {T : Array Value} (hT : T14 T) {vh : Value}
    (hend : ∀ T' : Array Value, T'.getD 4 undef = .bool true → ReaR Tryd.prog X Y D Stop none [] 4 [] [.code .ret] T' v) :
    ∀ w, SimT X Y w v → GoesI Tryd.prog D Stop (G ((framees T).finish (.tuple #[vh, .bool true])) []) w := by
  rw [show framees T = Dn none [] 4 T (.inRegion esO [2, 3, 4, 5, 6, 7] :: [.code esD]) from rfl]
  rw [Dn_finish (by simp only [esO, qes]; rfl)]
  show ReaR _ _ _ _ _ _ _ _ _ _ _ _
  obtain ⟨f, rfl⟩ := hT
  walk_nrm
  refine reaR_op goodF hD (.tuple #[vh, .bool true]) (by simp only [esO, qes]; rfl) rfl (by kernel_rfl) (fun z _ => by go_simp) ?_
  walk_nrm
  refine reaR_op goodF hD vh (by simp only [esO, qes]; rfl) rfl (by kernel_rfl) (fun z _ => by go_simp) ?_
  walk_nrm
  refine reaR_op goodF hD (.bool true) (by simp only [esO, qes]; rfl) rfl (by kernel_rfl) (fun z _ => by go_simp) ?_
  walk_nrm
  refine reaR_op goodF hD vh (by simp only [esO, qes]; rfl) rfl (by kernel_rfl) (fun z _ => by go_simp) ?_
  walk_nrm
  refine reaR_op goodF hD (.bool true) (by simp only [esO, qes]; rfl) rfl (by kernel_rfl) (fun z _ => by go_simp) ?_
  walk_nrm
  refine reaR_endReg hD ?_
  unfold esD esC esBody
  simp only [gSnd, Tryd.f4, Option.getD_some]
  refine reaR_split hD (reaR_go goodF hD (by kernel_rfl) sfes fun R hR τ d => ?_)
  go_wp2
  change ReaR _ _ _ _ _ _ _ _ _ _ _ v
  exact hend _ rfl

set_option maxHeartbeats 8000000 in
set_option maxRecDepth 100000 in
theorem backEd (hD : ∀ w es, EvsP X w es → D es) {T : Array Value} {K N C m cap pb bh : Nat} {bo : Option Addr} {f g : Nat → Ent} {d : Ent → List UInt8} {ov : Nat → Value} (hT : T32 (.slice bo m cap) pb T) (hN : N ≤ 128) (hpar : RowAt v pb [.int .i64 ((K : Nat) : Int), .int .i64 ((N : Nat) : Int), .int .i64 ((C : Nat) : Int)] 28)
    (hA : Args v bo m cap f d) (hP : ParamsOk (K : Int) (N : Int) (C : Int)) (hNf : NamesFit m f) (hRe : Rearr m f g) (hlt : ∀ i, i + 1 < m → Hp.lt (g i).k (g (i + 1)).k = true) (hFw : FewOk (namesOf m g) (sizesOf m g))
    (hov : ∀ i, i < N → v.cell? ⟨bh, i, none⟩ = some (ov i)) (how : ∀ i, i < N → Holds8 v (ov i) (shardB K N C (namesOf m g) (sizesOf m g) i (colB K (lenC K (joinD (fun j => d (g j)) m).length) (joinD (fun j => d (g j)) m) i)))
    (hnext : ∀ v', Kept v v' → ∀ w, SimT X Y w v' → GoesI Tryd.prog D Stop (G (cfr.finish (.tuple #[.slice (some ⟨bh, 0, none⟩) N N, .bool true])) cs) w) :
    ∀ w, SimT X Y w v → GoesI Tryd.prog D Stop (G ((frameed T).finish (.tuple #[.slice (some ⟨bh, 0, none⟩) N N, .int .i64 0])) (cfr :: cs)) w := by
  rw [show frameed T = Dn none [] 10 T (.inRegion edO [2, 3, 4, 5, 6, 7] :: [.code edD]) from rfl]
  rw [Dn_finish (by simp only [edO, qed]; rfl)]
  show ReaR _ _ _ _ _ _ _ _ _ _ _ _
  obtain ⟨F, rfl⟩ := hT
  walk_nrm
  refine reaR_op goodF hD (.tuple #[.slice (some ⟨bh, 0, none⟩) N N, .int .i64 0]) (by simp only [edO, qed]; rfl) rfl (by kernel_rfl) (fun z _ => by go_simp) ?_
  walk_nrm
  refine reaR_op goodF hD (.slice (some ⟨bh, 0, none⟩) N N) (by simp only [edO, qed]; rfl) rfl (by kernel_rfl) (fun z _ => by go_simp) ?_
  walk_nrm
  refine reaR_op goodF hD (.int .i64 0) (by simp only [edO, qed]; rfl) rfl (by kernel_rfl) (fun z _ => by go_simp) ?_
  walk_nrm
  refine reaR_op goodF hD (.slice (some ⟨bh, 0, none⟩) N N) (by simp only [edO, qed]; rfl) rfl (by kernel_rfl) (fun z _ => by go_simp) ?_
  walk_nrm
  refine reaR_op goodF hD (.int .i64 0) (by simp only [edO, qed]; rfl) rfl (by kernel_rfl) (fun z _ => by go_simp) ?_
  walk_nrm
  refine reaR_endReg hD ?_
  unfold edD edC edBody
  simp only [gSnd, Tryd.f10, Option.getD_some]
  refine reaR_split hD (reaR_go goodF hD (by kernel_rfl) sfed fun R hR τ d' => ?_)
  have hk1 : Kept v { v with tape := τ, drawn := d' } := (Kept.refl v).tape τ d'
  have hA1 : Args { v with tape := τ, drawn := d' } bo m cap f d := ⟨hA.hm, hA.hcap, hA.hbo, hA.hk, hA.hl, hA.bc.up (Nat.le_refl _) hk1.cell, fun i hi => (hA.dat i hi).grow (Nat.le_refl _) hk1.cell⟩
  have hr1 : RowAt { v with tape := τ, drawn := d' } pb [.int .i64 ((K : Nat) : Int), .int .i64 ((N : Nat) : Int), .int .i64 ((C : Nat) : Int)] 28 := hpar
  generalize ({ v with tape := τ, drawn := d' } : World) = v1 at *
  have kr := encW hA1 hP hNf hRe hlt hFw
  have c0 := hr1.cell (i := 0) rfl
  have c1 := hr1.cell (i := 1) rfl
  have c2 := hr1.cell (i := 2) rfl
  go_wp2_with (first | (go_at_call 19; (with_reducible refine kr.mono ?_); rintro e v2 ⟨go, cg, rfl, hE, hb2⟩))
  clear kr c0 c1 c2
  have hk2 := hk1.trans (below_kept hb2)
  refine reaR_split hD (reaR_go goodF hD (by kernel_rfl) sfed fun R hR τ d' => ?_)
  have hk3 : Kept v { v2 with tape := τ, drawn := d' } := hk2.tape τ d'
  obtain ⟨ov2, hE1, hE2⟩ : EncOut K N C m g d { v2 with tape := τ, drawn := d' } go := hE
  generalize ({ v2 with tape := τ, drawn := d' } : World) = v3 at *
  have hold : ∀ {x : Value} {q : List UInt8}, Holds8 v x q → Holds8 v3 x q := fun {x q} h => by
    rcases h with h | ⟨a, cp, h1, h2⟩
    · exact .inl h
    · refine .inr ⟨a, cp, h1, fun j hj => ?_⟩
      have h3 := h2 j hj
      have e := hk3.block (a.add j).block (by have := cell_lt (w := v) h3; exact this)
      simp only [World.cell?, e] at h3 ⊢
      exact h3
  have ksl := sameLists_yes N bh go 0 0 N cg ov ov2 (fun i => shardB K N C (namesOf m g) (sizesOf m g) i (colB K (lenC K (joinD (fun j => d (g j)) m).length) (joinD (fun j => d (g j)) m) i)) v3 (by omega) (fun i hi => by rw [Nat.zero_add]; exact hk3.cell (hov i hi)) (fun i hi => by rw [Nat.zero_add]; exact hE1 i hi) (fun i hi => hold (how i hi)) hE2
  clear hE1 hE2 hold
  go_wp2_with (first
    | (go_at_call 20; (with_reducible refine (numE_any _ _).mono ?_); rintro e w' ⟨rfl, hw'⟩; obtain rfl := hw'.symm)
    | (go_at_call 21; (with_reducible refine ksl.mono ?_); rintro e v4 ⟨rfl, n4, hv4⟩; have hk4 : Kept v v4 := (by rw [hv4]; exact ⟨hk3.os, hk3.output, hk3.size, hk3.block⟩); clear hv4))
  refine reaI_ret (a := ⟨_, []⟩) hD rfl Tryd.func10 (fun τ d => results_tmp2 (fn := Tryd.f10) (t := 4) (u := 5) rfl _ _ _) ?_
  exact hnext v4 hk4
end
end Go.Proofs.YtkpcmfgeanlcnaaDoor

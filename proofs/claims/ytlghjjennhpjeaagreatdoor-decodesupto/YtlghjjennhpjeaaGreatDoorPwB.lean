/-
  archive.Decode: its walks.
-/
import Derived.Test.YtlghjjennhpjeaaGreatDoorAdA
import Derived.Test.YtlghjjennhpjeaaGreatDoorPrN
namespace Go.Proofs.YtlghjjennhpjeaaGreatDoor
open Go.RowKit Go.Deep Go.Lf Go.Conc Go.Hp

theorem chain_tp {w : World} (τ : Nat → Question → Nat) (d : Nat) {k : Nat} {v : Value} {e p : Nat} (h : Chain w k v e p) : Chain { w with tape := τ, drawn := d } k v e p := chain_sub (w := w) (w' := { w with tape := τ, drawn := d }) ⟨Nat.le_refl w.heap.size, fun _ _ _ _ h => h⟩ h
theorem TogE.one {n : Nat} {sh : Nat → Shd} {e e' : Nat} (h : TogE n sh e) (h' : TogE n sh e') : e' = e := by
  rcases h with ⟨rfl, a⟩ | ⟨rfl, a, b⟩ | ⟨rfl, a, b, c⟩ | ⟨rfl, a, b, c, d⟩ <;> rcases h' with ⟨rfl, a'⟩ | ⟨rfl, a', b'⟩ | ⟨rfl, a', b', c'⟩ | ⟨rfl, a', b', c', d'⟩ <;> first | rfl | contradiction | omega
theorem TogE.some (n : Nat) (sh : Nat → Shd) : ∃ e, TogE n sh e := by
  by_cases h1 : AllOne n sh
  · by_cases h2 : Dup n sh
    · exact ⟨11, .inr (.inl ⟨rfl, h1, h2⟩)⟩
    · by_cases h3 : n = 0 ∨ n < (sh 0).k
      · exact ⟨12, .inr (.inr (.inl ⟨rfl, h1, h2, h3⟩))⟩
      · exact ⟨0, .inr (.inr (.inr ⟨rfl, h1, h2, by omega, by omega⟩))⟩
  · exact ⟨10, .inl ⟨rfl, h1⟩⟩
/-- archive.cut of data that may be nil. -/
theorem cutB_any (ns : List (List UInt8)) (sz : List Nat) (l : List UInt8) (vN vS vd : Value) (w : World) (hN : Lies w vN (nameV ns)) (hS : Lies w vS (natV sz)) (hD : Lies w vd (u8V l)) (hV : DatV vd l.length) (hln : ns.length ≤ sz.length) (hsum : sz.sum = l.length) (hn : ns.length ≤ 1048576) (hl : l.length ≤ 1048576) :
    Calls Tryz.prog 26 #[vN, vS, vd] w fun r w' => Below w.heap.size w w' ∧ ∃ vd, r = .returned (.slice (some ⟨w.heap.size, 0, none⟩) ns.length ns.length) ∧ CB ns sz l w.heap.size ns.length vd w' := by
  rcases hV with ⟨rfl, h0⟩ | ⟨b, off, cap, rfl, hc⟩
  · obtain rfl : l = [] := List.eq_nil_of_length_eq_zero h0
    refine cutB_none ns sz vN vS w hN hS hln (fun i hi => ?_) hn
    have h1 := pre_succ hi
    have h2 := pre_le sz (i + 1)
    simp only [List.length_nil] at hsum
    omega
  · exact cutB_some ns sz l vN vS b off cap w hN hS hD hc hln (by omega) hn hl

section
variable {X : Nat → Prop} {Y : Nat → Option Obj} {D : Nat → World → Array Event → Prop} {Stop : Goroutine → World → Prop} {w : World} {cs : List Frame} {fr : Frame} {M cap : Nat} {bo : Option Addr} {sh : Nat → Shd} {vN vS vC : Nat → Value} {T : Array Value}
set_option maxHeartbeats 8000000 in
set_option maxRecDepth 100000 in
theorem ad_pre (hDk : Dok X D) (hS : Sds w bo M sh vN vS vC) (hM : M ≤ 1048576) (hx : ∀ i, i < M → (sh i).i < 256)
    (hnext : ∀ (T : Array Value) (g : Nat → Nat) (bs : Option Addr) (cp : Nat) (w' : World), TA1 (.slice bs M cp) T → Prm M g → (∀ i, i + 1 < M → (sh (g i)).i ≤ (sh (g (i + 1))).i) → Sds w' bs M (fun i => sh (g i)) (fun i => vN (g i)) (fun i => vS (g i)) (fun i => vC (g i)) → Bel w.heap.size w w' →
      ReaI Tryz.prog X Y D Stop 10 cs [.code ad2] ⟨T, []⟩ w') :
    ReaI Tryz.prog X Y D Stop 10 cs [.code adBody] ⟨#[.slice bo M cap] ++ Array.replicate 34 undef, []⟩ w := by
  rw [adBody_eq]
  simp only [Array.replicate_succ, Array.replicate_zero, List.push_toArray, List.append_toArray, List.nil_append, List.cons_append]
  refine reachI_go goodA hDk (by kernel_rfl) rfl sfad fun R hR τ d' => ?_
  have bl : Bel w.heap.size w { w with tape := τ, drawn := d' } := (Bel.refl _ w).tp τ d'
  generalize ({ w with tape := τ, drawn := d' } : World) = wA at bl ⊢
  simp only [gFst, adBody, Tryz.f10, Option.getD_some]
  go_wp2
  refine reachI_go goodA hDk (by kernel_rfl) rfl sfad fun R hR τ d' => ?_
  replace bl := bl.tp τ d'
  generalize ({ wA with tape := τ, drawn := d' } : World) = wB at bl ⊢
  simp only [gFst, gSnd, adBody, Tryz.f10, Option.getD_some]
  have Hr := hS.bel bl
  have hSC : SC wB bo M (shS M sh vN vS vC) := fun hn => by
    obtain ⟨b, o, e, hl, hc⟩ := Hr.cells hn
    exact ⟨b, o, e, hl, fun i hi => by rw [shS, if_pos hi]; exact hc i hi⟩
  have k1 := byIndex_any (shS_ok hS) (fun i => (sh i).i) M cap bo wB hM hSC (fun i hi => ⟨hx i hi, by rw [shS, if_pos hi]; rfl⟩)
  go_wp2_with (first | (go_at_call 22; (with_reducible refine k1.mono ?_); rintro r w1 hI; obtain ⟨hb1, g, bs, cp, rfl, hP, hsr, hS1⟩ := sorted_sds Hr hx hI))
  exact hnext _ g bs cp w1 ⟨_, tad_mk rfl⟩ hP hsr hS1 (bl.trans (Bel.of hb1) bl.size')
set_option maxHeartbeats 8000000 in
set_option maxRecDepth 100000 in
/-- Shards that may not be put together. -/
theorem ad_no (hDk : Dok X D) (hT : TA1 (.slice bo M cap) T) (hS : Sds w bo M sh vN vS vC) (hM : M ≤ 1048576) {e : Nat} (hE : TogE M sh e) (he : e ≠ 0)
    (hnext : ∀ ev p w', Chain w' 1 ev e p → Bel w.heap.size w w' → ∀ z, SimT X Y z w' → GoesI Tryz.prog D Stop (G (fr.finish (.tuple #[.slice none 0 0, ev])) cs) z) :
    ReaI Tryz.prog X Y D Stop 10 (fr :: cs) [.code ad2] ⟨T, []⟩ w := by
  obtain ⟨f, rfl⟩ := hT
  unfold Ta
  rw [ad2_eq]
  refine reaR_I.1 (reaR_split hDk (reaR_split hDk (reaR_go goodA hDk (by kernel_rfl) sfad fun R hR τ d => ?_)))
  have bl : Bel w.heap.size w { w with tape := τ, drawn := d } := (Bel.refl _ w).tp τ d
  generalize ({ w with tape := τ, drawn := d } : World) = wA at bl ⊢
  have k1 := together_any M cap bo sh vN vS vC wA hM (hS.bel bl)
  simp only [ad2, gFst, gSnd, adBody, Tryz.f10, Option.getD_some]
  go_wp2_with (first | (go_at_call 23; (with_reducible refine k1.mono ?_); rintro r w1 ⟨hb1, e', v, hE', rfl, h1, h2⟩))
  obtain rfl : e' = e := hE.one hE'
  obtain ⟨p, hch⟩ := h2 he
  clear h1 h2
  replace bl := bl.trans (Bel.of hb1) bl.size'
  refine reaR_split hDk (reaR_go goodA hDk (by kernel_rfl) sfad fun R hR τ d => ?_)
  replace bl := bl.tp τ d
  replace hch := chain_tp τ d hch
  generalize ({ w1 with tape := τ, drawn := d } : World) = w2 at bl hch ⊢
  obtain ⟨ty, x, rfl⟩ := hch.iface
  simp only [ad2, gFst, gSnd, adBody, Tryz.f10, Option.getD_some]
  go_wp2
  refine reaR_cond hDk (b := true) (by rfl) ?_
  simp only [if_true]
  refine reaR_split hDk (reaR_go goodA hDk (by kernel_rfl) sfad fun R hR τ d => ?_)
  replace bl := bl.tp τ d
  replace hch := chain_tp τ d hch
  generalize ({ w2 with tape := τ, drawn := d } : World) = w3 at bl hch ⊢
  simp only [ad2, gFst, gSnd, cnd1, adBody, Tryz.f10, Option.getD_some]
  go_wp2_with (first | (go_at_call 24; refine (within_any _ 0 _ e' p _ hch).mono ?_; rintro q w4 ⟨v4, rfl, h5, h6⟩))
  refine (reaR_I.2 (reaI_retK hDk Tryz.func10 (y := .tuple #[.slice none 0 0, v4]) (fun τ d => results_tmp2 (fn := Tryz.f10) (t := 2) (u := 3) rfl _ _ _) (hnext v4 p w4 h5 (bl.trans (Bel.of h6) bl.size'))))
set_option maxHeartbeats 8000000 in
set_option maxRecDepth 100000 in
/-- Shards that may be put together, but for their columns. -/
theorem ad_in (hDk : Dok X D) (hT : TA1 (.slice bo M cap) T) (hS : Sds w bo M sh vN vS vC) (hM : M ≤ 1048576) (hE : TogE M sh 0)
    (hnext : ∀ T' w', TA1 (.slice bo M cap) T' → Bel w.heap.size w w' → ReaI Tryz.prog X Y D Stop 25 (frAd T' :: cs) [.code doBody] ⟨#[.slice bo M cap] ++ Array.replicate 75 undef, []⟩ w') :
    ReaI Tryz.prog X Y D Stop 10 cs [.code ad2] ⟨T, []⟩ w := by
  obtain ⟨f, rfl⟩ := hT
  unfold Ta
  rw [ad2_eq']
  refine reachI_go goodA hDk (by kernel_rfl) rfl sfad fun R hR τ d => ?_
  have bl : Bel w.heap.size w { w with tape := τ, drawn := d } := (Bel.refl _ w).tp τ d
  generalize ({ w with tape := τ, drawn := d } : World) = wA at bl ⊢
  have k1 := together_any M cap bo sh vN vS vC wA hM (hS.bel bl)
  simp only [ad2, gFst, gSnd, adBody, Tryz.f10, Option.getD_some]
  go_wp2_with (first | (go_at_call 23; (with_reducible refine k1.mono ?_); rintro r w1 ⟨hb1, e', v, hE', rfl, h1, h2⟩; obtain rfl : e' = 0 := hE.one hE'; obtain rfl := h1 rfl))
  clear h2 k1
  replace bl := bl.trans (Bel.of hb1) bl.size'
  rw [ad5_eq]
  refine reachI_split hDk rfl (reaI_region hDk ?_)
  rw [aO5_size]
  simp only [List.range, List.range.loop]
  refine reaR_op goodA hDk (.slice bo M cap) (by simp only [aO5, qa5]; rfl) rfl (by kernel_rfl) (fun z _ => by go_simp) ?_
  walk_nrm
  refine reaR_call hDk (by simp only [aO5, qa5]; rfl) rfl (by rfl) Tryz.func25 (by kernel_rfl) (c := doBody) (by kernel_rfl) (vs := #[.slice bo M cap]) (n := 75) (by simp [Act.eval]) (by kernel_rfl) ?_
  unfold frAd at hnext
  exact hnext _ _ ⟨_, tad_mk rfl⟩ bl
set_option maxHeartbeats 8000000 in
set_option maxRecDepth 100000 in
theorem ad_back (hDk : Dok X D) (hT : TA1 (.slice bo M cap) T) {vd ve : Value}
    (hnext : ∀ T', TA2 (.slice bo M cap) vd ve T' → ReaR Tryz.prog X Y D Stop none [] 10 cs [.code ad6] T' w) :
    ∀ z, SimT X Y z w → GoesI Tryz.prog D Stop (G ((frAd T).finish (.tuple #[vd, ve])) cs) z := by
  rw [show frAd T = Dn none [] 10 T (.inRegion aO5 [1, 2, 3, 4, 5, 6] :: [.code ad6]) from rfl]
  rw [Dn_finish (by simp only [aO5, qa5]; rfl)]
  show ReaR _ _ _ _ _ _ _ _ _ _ _ _
  obtain ⟨g, rfl⟩ := hT
  unfold Ta
  walk_nrm
  refine reaR_op goodA hDk (.tuple #[vd, ve]) (by simp only [aO5, qa5]; rfl) rfl (by kernel_rfl) (fun z _ => by go_simp) ?_
  walk_nrm
  refine reaR_op goodA hDk vd (by simp only [aO5, qa5]; rfl) rfl (by kernel_rfl) (fun z _ => by go_simp) ?_
  walk_nrm
  refine reaR_op goodA hDk ve (by simp only [aO5, qa5]; rfl) rfl (by kernel_rfl) (fun z _ => by go_simp) ?_
  walk_nrm
  refine reaR_op goodA hDk vd (by simp only [aO5, qa5]; rfl) rfl (by kernel_rfl) (fun z _ => by go_simp) ?_
  walk_nrm
  refine reaR_op goodA hDk ve (by simp only [aO5, qa5]; rfl) rfl (by kernel_rfl) (fun z _ => by go_simp) ?_
  walk_nrm
  exact reaR_endReg hDk (hnext _ ⟨_, tad_mk rfl⟩)
set_option maxHeartbeats 8000000 in
set_option maxRecDepth 100000 in
/-- Behind dataOf: no such data. -/
theorem ad_odd (hDk : Dok X D) {vd ve : Value} {e p : Nat} (hT : TA2 (.slice bo M cap) vd ve T) (hch : Chain w 0 ve e p)
    (hnext : ∀ ev w', Chain w' 1 ev e p → Bel w.heap.size w w' → ∀ z, SimT X Y z w' → GoesI Tryz.prog D Stop (G (fr.finish (.tuple #[.slice none 0 0, ev])) cs) z) :
    ReaI Tryz.prog X Y D Stop 10 (fr :: cs) [.code ad6] ⟨T, []⟩ w := by
  refine reaI_tail goodA hDk (by kernel_rfl) Tryz.func10 (R := fun y w' => ∃ ev, y = .tuple #[.slice none 0 0, ev] ∧ Chain w' 1 ev e p ∧ Bel w.heap.size w w') (fun τ d => ?_) (fun y v' ⟨ev, h1, h2, h3⟩ => h1 ▸ hnext ev v' h2 h3)
  have bl : Bel w.heap.size w { w with tape := τ, drawn := d } := (Bel.refl _ w).tp τ d
  replace hch := chain_tp τ d hch
  generalize ({ w with tape := τ, drawn := d } : World) = wA at bl hch ⊢
  obtain ⟨f, rfl⟩ := hT
  unfold Ta
  conv in ad6 => simp only [ad6, ad5, ad2, adBody, gSnd, Tryz.f10, Option.getD_some]
  obtain ⟨ty, x, rfl⟩ := hch.iface
  go_wp2_with (first | (go_at_call 24; refine (within_any _ 0 _ e p _ hch).mono ?_; rintro q w4 ⟨v4, rfl, h5, h6⟩))
  go_ret2
  exact ⟨_, rfl, v4, rfl, h5, bl.trans (Bel.of h6) bl.size'⟩
set_option maxHeartbeats 8000000 in
set_option maxRecDepth 100000 in
/-- Behind dataOf: the data cut into blobs. -/
theorem ad_cut (hDk : Dok X D) {vd : Value} {l : List UInt8} (hT : TA2 (.slice bo M cap) vd .nilIface T) (hS : Sds w bo M sh vN vS vC) (hM : 0 < M) (hD : Lies w vd (u8V l)) (hV : DatV vd l.length) (hln : (sh 0).names.length = (sh 0).sizes.length) (hsum : (sh 0).sizes.sum = l.length) (hl : l.length ≤ 1048576)
    (hnext : ∀ g vb w', CB (sh 0).names (sh 0).sizes l g (sh 0).names.length vb w' → Bel w.heap.size w w' → w.heap.size ≤ g → ∀ z, SimT X Y z w' → GoesI Tryz.prog D Stop (G (fr.finish (.tuple #[.slice (some ⟨g, 0, none⟩) (sh 0).names.length (sh 0).names.length, .nilIface])) cs) z) :
    ReaI Tryz.prog X Y D Stop 10 (fr :: cs) [.code ad6] ⟨T, []⟩ w := by
  refine reaI_tail goodA hDk (by kernel_rfl) Tryz.func10 (R := fun y w' => ∃ g vb, y = .tuple #[.slice (some ⟨g, 0, none⟩) (sh 0).names.length (sh 0).names.length, .nilIface] ∧ CB (sh 0).names (sh 0).sizes l g (sh 0).names.length vb w' ∧ Bel w.heap.size w w' ∧ w.heap.size ≤ g) (fun τ d => ?_) (fun y v' ⟨g, vb, h1, h2, h3, h4⟩ => h1 ▸ hnext g vb v' h2 h3 h4)
  have bl : Bel w.heap.size w { w with tape := τ, drawn := d } := (Bel.refl _ w).tp τ d
  generalize ({ w with tape := τ, drawn := d } : World) = wA at bl ⊢
  obtain ⟨f, rfl⟩ := hT
  unfold Ta
  have Hr := hS.bel bl
  have h0n : (0 : Int) < (M : Int) := by omega
  obtain ⟨b, o, rfl, hbl, hcell⟩ := Hr.cells hM
  have r0 := hcell 0 hM
  unfold shQ at r0
  obtain ⟨q0, q1, q2, q3, q4, q5, q6⟩ := range7 r0
  simp only [Nat.zero_mul, Nat.add_zero] at q4 q5
  have k1 := cutB_any (sh 0).names (sh 0).sizes l (vN 0) (vS 0) vd wA.drew (Lies.drewN (Hr.nm 0 hM).1 1) (Lies.drewN (Hr.sz 0 hM).1 1) (Lies.drewN (bel_lies bl hD) 1) hV (by omega) hsum (Hr.nm 0 hM).2 hl
  conv in ad6 => simp only [ad6, ad5, ad2, adBody, gSnd, Tryz.f10, Option.getD_some]
  clear q0 q1 q2 q3 q6 r0 hcell hln hsum
  go_wp2_with fail
  have bl2 : Bel w.heap.size w wA.drew := bl.trans (Bel.of (Below.refl _ _).drew) bl.size'
  go_region_with (first | (go_at_call 26; (with_reducible refine k1.mono ?_); rintro r w2 ⟨hb2, vb, rfl, hCB⟩))
  all_goals
    go_wp2
    go_ret2
    exact ⟨_, rfl, _, vb, rfl, hCB, bl2.trans (Bel.of hb2) bl2.size', bl2.size'⟩
end
end Go.Proofs.YtlghjjennhpjeaaGreatDoor

/-
  Pieces of a shard, read one behind the other; cut short; with bytes behind.
-/
namespace Go.Proofs.YtlghjjennhpjeaaGreatDoor

/-- Pieces that are right, each of its own length. -/
def runP : St → List (List UInt8) → Option St
  | s, [] => some s
  | s, t :: ts => if t.length = s.sz ∧ s.nx ≠ 4 then match readP s t with
    | .ok s' => runP (moveP s' t) ts
    | .error _ => none
    else none

theorem begE_pre {t u ws : List UInt8} (h : begE (t ++ u) ws = none) : begE t ws = none := by
  rw [begE_none_iff] at h ⊢
  intro i hi
  have h1 := h i (by simp; omega)
  rw [← h1]
  simp only [bAt, List.getD_eq_getElem?_getD]
  rw [List.getElem?_append_left (by omega)]
/-- A piece that is right, cut short. -/
theorem read_cut {s s' : St} {t u : List UInt8} (h : readP s (t ++ u) = .ok s') (hl : t.length < s.sz) : readP s t = .error (4, s.pl + t.length) := by
  have hs : sealP s t = some (4, s.pl + t.length) := by unfold sealP; rw [if_pos hl]
  unfold readP at h ⊢
  split
  · rename_i h0
    rw [if_pos h0] at h
    unfold headP at h ⊢
    cases hb : begE (t ++ u) magic1 with
    | some i => rw [hb] at h; cases h
    | none => rw [begE_pre hb, hs]
  · rename_i h0
    rw [if_neg h0] at h
    split
    · unfold manP
      rw [hs]
    · rename_i h1
      rw [if_neg h1] at h
      split
      · unfold frameP
        rw [hs]
      · rename_i h2
        rw [if_neg h2] at h
        unfold tailP at h ⊢
        cases hb : begE (t ++ u) magic2 with
        | some i => rw [hb] at h; cases h
        | none => rw [begE_pre hb]; simp only; rw [if_pos hl]
theorem at_split {Z t u : List UInt8} {a : Nat} (h : At Z a (t ++ u)) : At Z a t ∧ At Z (a + t.length) u := by
  have h1 := h.1
  rw [List.length_append] at h1
  refine ⟨⟨by omega, fun i hi => ?_⟩, ⟨by omega, fun i hi => ?_⟩⟩
  · rw [h.2 i (by simp; omega)]
    simp only [bAt, List.getD_eq_getElem?_getD]
    rw [List.getElem?_append_left hi]
  · rw [Nat.add_assoc, h.2 (t.length + i) (by simp; omega)]
    simp only [bAt, List.getD_eq_getElem?_getD]
    rw [List.getElem?_append_right (by omega), Nat.add_sub_cancel_left]
theorem at_mid (x t y : List UInt8) : At (x ++ t ++ y) x.length t := by
  refine ⟨by simp, fun i hi => ?_⟩
  simp only [bAt, List.getD_eq_getElem?_getD]
  rw [List.getElem?_append_left (by simp; omega), List.getElem?_append_right (by omega), Nat.add_sub_cancel_left]

theorem run_good : ∀ (ts : List (List UInt8)) (s s' : St) (Z : List UInt8), Good s Z → At Z s.pl ts.flatten → runP s ts = some s' → Good s' Z ∧ s'.pl = s.pl + ts.flatten.length
  | [], s, s', Z, hG, _, h => by
    cases h
    exact ⟨hG, rfl⟩
  | t :: ts, s, s', Z, hG, hA, h => by
    unfold runP at h
    split at h
    · rename_i hc
      cases hr : readP s t with
      | error e => rw [hr] at h; cases h
      | ok s1 =>
        rw [hr] at h
        rw [List.flatten_cons] at hA
        obtain ⟨h1, h2⟩ := at_split hA
        obtain ⟨_, g1, g2, _⟩ := read_ok hG hc.2 h1 (by omega) hr
        have hp : (moveP s1 t).pl = s.pl + t.length := by show s1.pl + t.length = _; rw [g2]
        obtain ⟨g3, g4⟩ := run_good ts _ s' Z g1 (by rw [hp]; exact h2) h
        refine ⟨g3, ?_⟩
        rw [g4, hp, List.flatten_cons, List.length_append]
        omega
    · cases h
/-- The pieces, cut short: too short, and there. -/
theorem run_cut : ∀ (ts : List (List UInt8)) (s s' : St) (Z x y : List UInt8), Good s Z → Z.length = s.pl + x.length → At Z s.pl x → ts.flatten = x ++ y → 0 < y.length → runP s ts = some s' → parseE Z = .error (4, Z.length)
  | [], s, s', Z, x, y, _, _, _, e, hy, _ => by
    have := congrArg List.length e
    simp at this
    omega
  | t :: ts, s, s', Z, x, y, hG, hZ, hA, e, hy, h => by
    unfold runP at h
    split at h
    · rename_i hc
      cases hr : readP s t with
      | error e => rw [hr] at h; cases h
      | ok s1 =>
        rw [hr] at h
        rw [List.flatten_cons] at e
        rcases Nat.lt_or_ge x.length t.length with hlt | hge
        · -- the piece itself is cut
          obtain ⟨u, rfl⟩ : ∃ u, t = x ++ u := by
            have h1 : (t ++ ts.flatten).take x.length = x := by rw [e]; simp
            rw [List.take_append_of_le_length (by omega)] at h1
            exact ⟨t.drop x.length, (List.take_append_drop x.length t).symm.trans (congrArg (· ++ t.drop x.length) h1)⟩
          have hsz : x.length < s.sz := by rw [← hc.1]; exact hlt
          rw [hZ]
          exact read_err hG hc.2 hA (by omega) (read_cut hr hsz) (fun _ => hZ)
        · obtain ⟨x2, rfl⟩ : ∃ x2, x = t ++ x2 := by
            have h1 : (x ++ y).take t.length = t := by rw [← e]; simp
            rw [List.take_append_of_le_length (by omega)] at h1
            exact ⟨x.drop t.length, (List.take_append_drop t.length x).symm.trans (congrArg (· ++ x.drop t.length) h1)⟩
          obtain ⟨h1, h2⟩ := at_split hA
          obtain ⟨_, g1, g2, _⟩ := read_ok hG hc.2 h1 (by omega) hr
          have hp : (moveP s1 t).pl = s.pl + t.length := by show s1.pl + t.length = _; rw [g2]
          rw [List.append_assoc] at e
          exact run_cut ts _ s' Z x2 y g1 (by rw [hp, hZ, List.length_append]; omega) (by rw [hp]; exact h2) (List.append_cancel_left e) hy h
    · cases h

def St0 : St := ⟨0, 0, 0, 0, [], [], [], 0, 0, 0, 0, 0⟩
/-- A shard in pieces: whole; with bytes behind; cut short. -/
theorem parse_run {ts : List (List UInt8)} {s : St} (h : runP St0 ts = some s) (h4 : s.nx = 4) (x : List UInt8) : parseE (ts.flatten ++ x) = if x = [] then .ok s.shd else .error (9, ts.flatten.length) := by
  obtain ⟨g1, g2⟩ := run_good ts St0 s (ts.flatten ++ x) (.head rfl rfl rfl) (at_mid [] ts.flatten x) h
  have g2' : s.pl = ts.flatten.length := by rw [g2]; exact Nat.zero_add _
  rw [read_end g1 h4, g2']
  by_cases hx : x = []
  · rw [if_pos hx, if_pos (by rw [hx]; simp)]
  · have : 0 < x.length := List.length_pos_iff.2 hx
    rw [if_neg hx, if_neg (by simp; omega)]
theorem parse_short {ts : List (List UInt8)} {s : St} (h : runP St0 ts = some s) {m : Nat} (hm : m < ts.flatten.length) : parseE (ts.flatten.take m) = .error (4, m) := by
  have hl : (ts.flatten.take m).length = m := by rw [List.length_take]; omega
  have := run_cut ts St0 s (ts.flatten.take m) (ts.flatten.take m) (ts.flatten.drop m) (.head rfl rfl rfl) (Nat.zero_add _).symm (by have := at_mid [] (ts.flatten.take m) []; rwa [List.append_nil, List.nil_append] at this) (List.take_append_drop m _).symm (by rw [List.length_drop]; omega) h
  rw [this, hl]
end Go.Proofs.YtlghjjennhpjeaaGreatDoor

/-
  What is written can be read: the pieces of a shard that is right are read one behind the other, and tell the shard.
-/
namespace Go.Proofs.YtlghjjennhpjeaaGreatDoor

theorem bAt_left {x y : List UInt8} {i : Nat} (h : i < x.length) : bAt (x ++ y) i = bAt x i := by
  simp only [bAt, List.getD_eq_getElem?_getD]
  rw [List.getElem?_append_left h]
theorem bAt_right {x y : List UInt8} {i : Nat} (h : x.length ≤ i) : bAt (x ++ y) i = bAt y (i - x.length) := by
  simp only [bAt, List.getD_eq_getElem?_getD]
  rw [List.getElem?_append_right h]
theorem part_self (x y : List UInt8) : part (x ++ y) 0 x.length = x := by simp [part]
theorem part_rest (x y : List UInt8) : part (x ++ y) x.length y.length = y := by simp [part]
theorem part_mid (x y z : List UInt8) : part (x ++ (y ++ z)) x.length y.length = y := by simp [part]
theorem begE_self (ws x : List UInt8) : begE (ws ++ x) ws = none := by
  rw [begE_none_iff]
  intro i hi
  rw [bAt_left (by omega)]
  rfl
theorem le_right (x y : List UInt8) (n : Nat) (h : n ≤ y.length) : le (x ++ y) x.length n = le y 0 n := by
  have := (at_mid x y []).num n 0 (by omega)
  rwa [List.append_nil, Nat.add_zero] at this
theorem le_mid (x y z : List UInt8) : le (x ++ (y ++ z)) x.length y.length = le y 0 y.length := by
  have := (at_mid x y z).num y.length 0 (by omega)
  rwa [List.append_assoc, Nat.add_zero] at this
theorem le_leB_lt {n v : Nat} (h : v < 256 ^ n) : le (leB n v) 0 n = v := by rw [le_leB, Nat.mod_eq_of_lt h]
/-- A piece with its sum is right. -/
theorem seal_good {s : St} {l : List UInt8} (h : s.sz = l.length + 8) : sealP s (sealB l) = none ∧ part (sealB l) 0 ((sealB l).length - 8) = l := by
  have e1 : (sealB l).length - 8 = l.length := by rw [sealB_length]; omega
  have e2 : part (sealB l) 0 l.length = l := part_self _ _
  refine ⟨?_, by rw [e1, e2]⟩
  unfold sealP
  rw [if_neg (by rw [sealB_length]; omega), e1, e2]
  have e3 : part (sealB l) l.length 8 = leB 8 (sumOf l) := by
    have := part_rest l (leB 8 (sumOf l))
    rwa [leB_length] at this
  rw [e3, le_leB_lt (by have := sumOf_lt l; simpa using this), if_pos rfl]

/-- The blobs of a manifest. -/
def blobB (p : List UInt8 × Nat) : List UInt8 := leB 2 p.1.length ++ (p.1 ++ leB 4 p.2)
def blobsB (ps : List (List UInt8 × Nat)) : List UInt8 := ps.flatMap blobB
theorem blobB_length (p : List UInt8 × Nat) : (blobB p).length = 6 + p.1.length := by simp [blobB, leB_length]; omega
/-- Names, each of its right length and behind the one ahead of it. -/
def Asc : List (List UInt8) → List (List UInt8) → Prop
  | _, [] => True
  | ns, p :: r => (1 ≤ p.length ∧ p.length ≤ 255) ∧ (0 < ns.length → notBehind p (ns.getD (ns.length - 1) []) = false) ∧ Asc (ns ++ [p]) r
theorem asc_of {l : List (List UInt8)} (h : NamesOk l) : ∀ (r x : List (List UInt8)), l = x ++ r → Asc x r
  | [], _, _ => trivial
  | p :: r, x, e => by
    have hx : x.length < l.length := by rw [e]; simp
    have h1 := h x.length hx
    have e1 : l.getD x.length [] = p := by rw [e]; simp [List.getD_eq_getElem?_getD]
    rw [e1] at h1
    refine ⟨h1.1, fun h0 => ?_, asc_of h r _ (by rw [e]; simp)⟩
    have h2 := h1.2 h0
    have e2 : l.getD (x.length - 1) [] = x.getD (x.length - 1) [] := by
      rw [e]; simp only [List.getD_eq_getElem?_getD]; rw [List.getElem?_append_left (by omega)]
    rw [e2] at h2
    exact h2
theorem of_asc : ∀ (r x : List (List UInt8)), NamesOk x → Asc x r → NamesOk (x ++ r)
  | [], x, h, _ => by rwa [List.append_nil]
  | p :: r, x, h, ha => by
    obtain ⟨h1, h2, h3⟩ := ha
    have := of_asc r (x ++ [p]) (fun i hi => ?_) h3
    · rwa [List.append_assoc] at this
    · have hi' : i < x.length + 1 := by simpa using hi
      rcases Nat.lt_or_ge i x.length with q | q
      · have e1 : ∀ j, j < x.length → (x ++ [p]).getD j [] = x.getD j [] := fun j hj => by
          simp only [List.getD_eq_getElem?_getD]; rw [List.getElem?_append_left hj]
        rw [e1 i q, e1 (i - 1) (by omega)]
        exact h i q
      · obtain rfl : i = x.length := by omega
        have e1 : (x ++ [p]).getD x.length [] = p := by simp [List.getD_eq_getElem?_getD]
        rw [e1]
        refine ⟨h1, fun h0 => ?_⟩
        have e2 : (x ++ [p]).getD (x.length - 1) [] = x.getD (x.length - 1) [] := by
          simp only [List.getD_eq_getElem?_getD]; rw [List.getElem?_append_left (by omega)]
        rw [e2]
        exact h2 h0
theorem loop_good : ∀ (ps : List (List UInt8 × Nat)) (x : List UInt8) (ns : List (List UInt8)) (zs : List Nat), Asc ns (ps.map Prod.fst) → zs.sum + (ps.map Prod.snd).sum ≤ 65536 → loopP (x ++ blobsB ps) ps.length x.length ns zs = .ok (ns ++ ps.map Prod.fst, zs ++ ps.map Prod.snd)
  | [], x, ns, zs, _, _ => by
    simp [loopP, blobsB]
  | p :: ps, x, ns, zs, ha, hz => by
    obtain ⟨nm, z⟩ := p
    obtain ⟨⟨l1, l2⟩, ho, ha⟩ := ha
    simp only [List.map_cons, List.sum_cons] at hz l1 l2 ho ha ⊢
    have eu : x ++ blobsB ((nm, z) :: ps) = x ++ (leB 2 nm.length ++ (nm ++ (leB 4 z ++ blobsB ps))) := by simp [blobsB, blobB]
    have eu2 : x ++ blobsB ((nm, z) :: ps) = (x ++ blobB (nm, z)) ++ blobsB ps := by simp [blobsB]
    have hl : (x ++ blobsB ((nm, z) :: ps)).length = x.length + 6 + nm.length + (blobsB ps).length := by rw [eu2, List.length_append, List.length_append, blobB_length]; simp only; omega
    have e1 : le (x ++ blobsB ((nm, z) :: ps)) x.length 2 = nm.length := by
      rw [eu]
      have := le_mid x (leB 2 nm.length) (nm ++ (leB 4 z ++ blobsB ps))
      rw [leB_length] at this
      rw [this, le_leB_lt (by omega)]
    have e2 : part (x ++ blobsB ((nm, z) :: ps)) (x.length + 2) nm.length = nm := by
      rw [eu, ← List.append_assoc]
      have := part_mid (x ++ leB 2 nm.length) nm (leB 4 z ++ blobsB ps)
      rwa [List.length_append, leB_length] at this
    have e3 : le (x ++ blobsB ((nm, z) :: ps)) (x.length + 2 + nm.length) 4 = z := by
      rw [eu, ← List.append_assoc, ← List.append_assoc]
      have := le_mid (x ++ leB 2 nm.length ++ nm) (leB 4 z) (blobsB ps)
      rw [List.length_append, List.length_append, leB_length, leB_length] at this
      rw [this, le_leB_lt (by omega)]
    have hb : blob1 (x ++ blobsB ((nm, z) :: ps)) x.length ns zs = .ok (nm, z) := by
      unfold blob1
      rw [e1, e2, e3, if_neg (by omega), if_neg (fun q => by rw [ho q.1] at q; exact absurd q.2 (by simp)), if_neg (by omega)]
    show loopP _ (ps.length + 1) _ _ _ = _
    unfold loopP
    rw [hb]
    simp only
    have := loop_good ps (x ++ blobB (nm, z)) (ns ++ [nm]) (zs ++ [z]) ha (by simp only [List.sum_append, List.sum_cons, List.sum_nil]; omega)
    rw [List.length_append, blobB_length] at this
    rw [eu2, this]
    simp
/-- A manifest's bytes. -/
theorem man_bytes {ns : List (List UInt8)} {zs : List Int} (h : ns.length = zs.length) : manTo ns zs ns.length = leB 4 ns.length ++ blobsB (ns.zip (zs.map Int.toNat)) := by
  unfold manTo blobsB
  congr 1
  rw [List.flatMap_def, List.flatMap_def]
  congr 1
  apply List.ext_getElem
  · simp; omega
  · intro i h1 h2
    have hi : i < ns.length := by simpa using h1
    have hz : i < zs.length := by omega
    simp [blobB, List.getD_eq_getElem?_getD, List.getElem?_eq_getElem hi, List.getElem?_eq_getElem hz]
theorem list_good {ns : List (List UInt8)} {zs : List Int} (h : ns.length = zs.length) (hn : NamesOk ns) (hl : ns.length ≤ 1000) (hz : tot zs ≤ 65536) : listP (manTo ns zs ns.length) = .ok (ns, zs.map Int.toNat) := by
  have hzl : (zs.map Int.toNat).length = ns.length := by simp [h]
  have m1 : (ns.zip (zs.map Int.toNat)).map Prod.fst = ns := List.map_fst_zip (by omega)
  have m2 : (ns.zip (zs.map Int.toNat)).map Prod.snd = zs.map Int.toNat := List.map_snd_zip (by omega)
  have hlz : (ns.zip (zs.map Int.toNat)).length = ns.length := by rw [List.length_zip]; omega
  have := loop_good (ns.zip (zs.map Int.toNat)) (leB 4 ns.length) [] [] (by rw [m1]; exact asc_of hn ns [] rfl) (by rw [m2]; simpa [tot] using hz)
  rw [m1, m2, hlz, leB_length] at this
  unfold listP
  rw [man_bytes h]
  have e0 : le (leB 4 ns.length ++ blobsB (ns.zip (zs.map Int.toNat))) 0 4 = ns.length := by
    have := le_mid [] (leB 4 ns.length) (blobsB (ns.zip (zs.map Int.toNat)))
    rw [leB_length] at this
    simp only [List.nil_append, List.length_nil] at this
    rw [this, le_leB_lt (by omega)]
  rw [e0, if_neg (by omega), this]
  rfl

/-- The frames of what is left of a column. -/
def frL (c : Nat) : Nat → List UInt8 → List (List UInt8)
  | 0, _ => []
  | f + 1, r => if r = [] then [] else sealB (r.take c) :: frL c f (r.drop c)
theorem frameB_drop (c : Nat) (r : List UInt8) (k : Nat) : frameB c r (k + 1) = frameB c (r.drop c) k := by
  unfold frameB part
  rw [List.drop_drop, List.length_drop, show c + k * c = (k + 1) * c by rw [Nat.add_mul, Nat.one_mul, Nat.add_comm], show r.length - (k + 1) * c = r.length - c - k * c by rw [Nat.add_mul, Nat.one_mul]; omega]
theorem frL_flat {c : Nat} (hc : 1 ≤ c) : ∀ (f : Nat) (r : List UInt8), r.length ≤ f → (frL c f r).flatten = framesTo c r (nFr c r.length)
  | 0, r, h => by
    have : r = [] := List.length_eq_zero_iff.1 (by omega)
    subst this
    have : nFr c 0 = 0 := by unfold nFr; exact Nat.div_eq_of_lt (by omega)
    simp [frL, framesTo, this]
  | f + 1, r, h => by
    by_cases hr : r = []
    · subst hr
      have : nFr c 0 = 0 := by unfold nFr; exact Nat.div_eq_of_lt (by omega)
      simp [frL, framesTo, this]
    · have hp : 0 < r.length := List.length_pos_iff.2 hr
      have hn : nFr c r.length = nFr c (r.drop c).length + 1 := by
        unfold nFr
        rw [List.length_drop]
        rcases Nat.lt_or_ge r.length c with q | q
        · rw [show r.length - c = 0 by omega, Nat.div_eq_of_lt (show 0 + c - 1 < c by omega), Nat.div_eq_of_lt_le] <;> omega
        · rw [show r.length + c - 1 = (r.length - c + c - 1) + c by omega, Nat.add_div_right _ (by omega)]
      unfold frL
      rw [if_neg hr, List.flatten_cons, frL_flat hc f (r.drop c) (by rw [List.length_drop]; omega), hn]
      unfold framesTo
      rw [List.range_succ_eq_map, List.flatMap_cons]
      congr 1
      · unfold frameB part
        rw [Nat.zero_mul, List.drop_zero, Nat.sub_zero]
        congr 1
        rcases Nat.lt_or_ge r.length c with q | q
        · rw [Nat.min_eq_right (by omega), List.take_of_length_le (by omega), List.take_of_length_le (by omega)]
        · rw [Nat.min_eq_left q]
      · rw [List.flatMap_map]
        refine congrArg (fun g => (List.range (nFr c (r.drop c).length)).flatMap g) (funext fun k => ?_)
        exact (frameB_drop c r k).symm
/-- The frames of a column that is right are read. -/
theorem run_frames {c : Nat} (hc : 1 ≤ c) (ts : List (List UInt8)) : ∀ (f : Nat) (r : List UInt8) (s : St), r.length ≤ f → s.nx = (if r = [] then 3 else 2) → s.c = c → s.ln = s.col.length + r.length → (∀ m, m < s.ln → usedI s.k s.i s.tt ≤ (m : Int) → bAt (s.col ++ r) m = 0) →
    ∃ pl, runP s (frL c f r ++ ts) = runP { s with col := s.col ++ r, nx := 3, pl := pl } ts
  | 0, r, s, hf, hx, _, _, _ => by
    have : r = [] := List.length_eq_zero_iff.1 (by omega)
    subst this
    refine ⟨s.pl, ?_⟩
    rw [if_pos rfl] at hx
    obtain ⟨k, n, i, c', ns, zs, col, m, ln, tt, nx, pl⟩ := s
    simp only at hx
    subst hx
    simp [frL]
  | f + 1, r, s, hf, hx, hsc, hln, hp => by
    by_cases hr : r = []
    · subst hr
      refine ⟨s.pl, ?_⟩
      rw [if_pos rfl] at hx
      obtain ⟨k, n, i, c', ns, zs, col, m, ln, tt, nx, pl⟩ := s
      simp only at hx
      subst hx
      simp [frL]
    · rw [if_neg hr] at hx
      have hr0 : 0 < r.length := List.length_pos_iff.2 hr
      have hsz : s.sz = (r.take c).length + 8 := by
        rw [sz2 hx, hsc, hln, Nat.add_sub_cancel_left, List.length_take]
      obtain ⟨g1, g2⟩ := seal_good hsz
      have hpad : padP (r.take c) (usedI s.k s.i s.tt - (s.col.length : Int)) = none := by
        rw [padP_none_iff]
        intro m hm hF
        have hm' : m < r.length := by rw [List.length_take] at hm; omega
        have := hp (s.col.length + m) (by omega) (by omega)
        rw [bAt_right (by omega), Nat.add_sub_cancel_left] at this
        rw [← this]
        simp only [bAt, List.getD_eq_getElem?_getD]
        rw [List.getElem?_take_of_lt (by rw [List.length_take] at hm; omega)]
      have hr1 : readP s (sealB (r.take c)) = .ok { s with col := s.col ++ r.take c } := by
        unfold readP
        rw [if_neg (by omega), if_neg (by omega), if_pos hx]
        unfold frameP
        rw [g1, g2]
        simp only
        rw [hpad]
      have e1 : s.col ++ r.take c ++ r.drop c = s.col ++ r := by rw [List.append_assoc, List.take_append_drop]
      obtain ⟨pl, h⟩ := run_frames hc ts f (r.drop c) (moveP { s with col := s.col ++ r.take c } (sealB (r.take c))) (by rw [List.length_drop]; omega) (by
          show nextP _ = _
          unfold nextP
          simp only
          rw [if_neg (by omega), if_neg (by omega), hln, List.length_append, List.length_take]
          by_cases q : r.drop c = []
          · rw [if_pos q, if_neg]
            have := congrArg List.length q
            rw [List.length_drop, List.length_nil] at this
            omega
          · have := List.length_pos_iff.2 q
            rw [List.length_drop] at this
            rw [if_neg q, if_pos (by omega)]) hsc (by
          show s.ln = (s.col ++ r.take c).length + _
          rw [hln, List.length_append, List.length_take, List.length_drop]
          omega) (by
          show ∀ m, m < s.ln → usedI s.k s.i s.tt ≤ (m : Int) → bAt (s.col ++ r.take c ++ r.drop c) m = 0
          rw [e1]
          exact hp)
      refine ⟨pl, ?_⟩
      unfold frL
      rw [if_neg hr, List.cons_append]
      conv => lhs; unfold runP
      rw [if_pos ⟨by rw [sealB_length]; exact hsz.symm, by omega⟩, hr1]
      refine h.trans ?_
      show runP { s with col := s.col ++ r.take c ++ r.drop c, nx := 3, pl := pl } ts = _
      rw [e1]

/-- A shard's pieces. -/
def pieces (s : Sh) : List (List UInt8) := sealB (headB s (manB s).length) :: sealB (manB s) :: (frL s.C.toNat s.col.length s.col ++ [magic2])
theorem pieces_flat {s : Sh} (h : 1 ≤ s.C) : (pieces s).flatten = wrB s := by
  unfold pieces wrB
  rw [List.flatten_cons, List.flatten_cons, List.flatten_append, frL_flat (by omega) _ _ (Nat.le_refl _)]
  simp [magic2]
def shdOf (s : Sh) : Shd := ⟨s.K.toNat, s.N.toNat, s.I.toNat, s.C.toNat, s.ns, s.zs.map Int.toNat, s.col⟩
theorem head_len (s : Sh) (m : Nat) : (headB s m).length = 24 := by simp [headB, leB_length]
theorem run_head {s : Sh} (hF : s.Fine) {m : Nat} (hm : 4 ≤ m) (hm2 : m ≤ 300000) (hl : s.col.length ≤ 65536) (ts : List (List UInt8)) : runP St0 (sealB (headB s m) :: ts) = runP ⟨s.K.toNat, s.N.toNat, s.I.toNat, s.C.toNat, [], [], [], m, s.col.length, 0, 1, 32⟩ ts := by
  have hz : St0.sz = (headB s m).length + 8 := by rw [head_len]; rfl
  obtain ⟨g1, _⟩ := seal_good hz
  have ha : At (sealB (headB s m)) 0 (headB s m) := at_mid [] (headB s m) _
  have hn : ∀ j n, j + n ≤ 24 → le (sealB (headB s m)) j n = le (headB s m) j n := fun j n h => by
    have := ha.num n j (by rw [head_len]; exact h)
    rwa [Nat.zero_add] at this
  obtain ⟨k1, kn, n1, i0, iN, c1, c2⟩ := hF
  have e6 : le (sealB (headB s m)) 6 1 = s.K.toNat := by rw [hn 6 1 (by omega)]; simp [headB, le, bAt, b8]; omega
  have e7 : le (sealB (headB s m)) 7 1 = s.N.toNat := by rw [hn 7 1 (by omega)]; simp [headB, le, bAt, b8]; omega
  have e8 : le (sealB (headB s m)) 8 1 = s.I.toNat := by rw [hn 8 1 (by omega)]; simp [headB, le, bAt, b8]; omega
  have e9 : le (sealB (headB s m)) 9 1 = 0 := by rw [hn 9 1 (by omega)]; simp [headB, le, bAt]
  have e10 : le (sealB (headB s m)) 10 4 = s.C.toNat := by rw [hn 10 4 (by omega)]; simp [headB, le, bAt, leB]; omega
  have e14 : le (sealB (headB s m)) 14 4 = m := by rw [hn 14 4 (by omega)]; simp [headB, le, bAt, leB]; omega
  have e18 : le (sealB (headB s m)) 18 4 = s.col.length := by rw [hn 18 4 (by omega)]; simp [headB, le, bAt, leB]; omega
  have e22 : le (sealB (headB s m)) 22 2 = 0 := by rw [hn 22 2 (by omega)]; simp [headB, le, bAt, leB]
  have eb : begE (sealB (headB s m)) magic1 = none := by
    have : sealB (headB s m) = magic1 ++ (([b8 s.K, b8 s.N, b8 s.I, 0] ++ (leB 4 s.C.toNat ++ (leB 4 m ++ (leB 4 s.col.length ++ [0, 0])))) ++ leB 8 (sumOf (headB s m))) := by
      unfold sealB
      conv => lhs; unfold headB
      simp only [List.append_assoc]
      rfl
    rw [this]
    exact begE_self _ _
  have en : numsE (numsP (sealB (headB s m))) = none := by
    unfold numsP
    rw [e6, e7, e8, e9, e10, e14, e18, e22]
    unfold numsE
    rw [if_neg (by omega)]
    unfold numsE
    rw [if_neg (by omega)]
    unfold numsE
    rw [if_neg (by omega)]
    unfold numsE
    rw [if_neg (by omega)]
    unfold numsE
    rw [if_neg (by omega)]
    unfold numsE
    rw [if_neg (by omega)]
    unfold numsE
    rw [if_neg (by omega)]
    unfold numsE
    rw [if_neg (by omega)]
    rfl
  have hr : readP St0 (sealB (headB s m)) = .ok ⟨s.K.toNat, s.N.toNat, s.I.toNat, s.C.toNat, [], [], [], m, s.col.length, 0, 0, 0⟩ := by
    unfold readP
    rw [if_pos (show St0.nx = 0 from rfl)]
    unfold headP
    rw [eb]
    simp only
    rw [g1]
    simp only
    rw [en]
    simp only
    rw [e6, e7, e8, e10, e14, e18]
    rfl
  conv => lhs; unfold runP
  rw [if_pos ⟨by rw [sealB_length]; exact hz.symm, by decide⟩, hr]
  simp only
  unfold moveP
  rw [sealB_length, head_len]
  rfl
theorem run_man {s : Sh} (hL : s.Listed) (hW : s.Few) (hG : s.Long) (ts : List (List UInt8)) : ∃ pl, runP ⟨s.K.toNat, s.N.toNat, s.I.toNat, s.C.toNat, [], [], [], (manB s).length, s.col.length, 0, 1, 32⟩ (sealB (manB s) :: ts) = runP ⟨s.K.toNat, s.N.toNat, s.I.toNat, s.C.toNat, s.ns, s.zs.map Int.toNat, [], (manB s).length, s.col.length, tot s.zs, if s.col = [] then 3 else 2, pl⟩ ts := by
  obtain ⟨g1, g2⟩ := seal_good (s := ⟨s.K.toNat, s.N.toNat, s.I.toNat, s.C.toNat, [], [], [], (manB s).length, s.col.length, 0, 1, 32⟩) (l := manB s) (sz1 rfl)
  have hl : listP (manB s) = .ok (s.ns, s.zs.map Int.toNat) := list_good hL.len hL.names hW.blobs hW.bytes
  have hr : readP ⟨s.K.toNat, s.N.toNat, s.I.toNat, s.C.toNat, [], [], [], (manB s).length, s.col.length, 0, 1, 32⟩ (sealB (manB s)) = .ok ⟨s.K.toNat, s.N.toNat, s.I.toNat, s.C.toNat, s.ns, s.zs.map Int.toNat, [], (manB s).length, s.col.length, tot s.zs, 1, 32⟩ := by
    unfold readP
    rw [if_neg (by simp), if_pos rfl]
    unfold manP
    rw [g1, g2]
    simp only
    rw [hl]
    simp only
    rw [if_pos (by exact hG)]
    rfl
  refine ⟨32 + ((manB s).length + 8), ?_⟩
  conv => lhs; unfold runP
  rw [if_pos ⟨by rw [sealB_length, sz1 rfl], by simp⟩, hr]
  simp only
  unfold moveP
  rw [sealB_length]
  simp only
  congr 2
  unfold nextP
  simp only
  rw [if_neg (by decide), if_neg (by decide)]
  by_cases q : s.col = []
  · rw [if_pos q, if_neg (by rw [q]; simp)]
  · have := List.length_pos_iff.2 q
    rw [if_neg q, if_pos (by simpa using this)]
/-- The pieces of a shard that is right are read. -/
theorem run_wr {s : Sh} (hF : s.Fine) (hL : s.Listed) (hW : s.Few) (hG : s.Long) (hB : ¬ s.Bad) : ∃ st, runP St0 (pieces s) = some st ∧ st.nx = 4 ∧ st.shd = shdOf s := by
  have hk : 1 ≤ s.K.toNat := by have := hF.k1; omega
  have hl : s.col.length ≤ 65536 := by
    have h1 := lenC_le (t := tot s.zs) hk
    have h2 := hW.bytes
    have h3 : s.col.length = _ := hG
    omega
  have hm : (manB s).length = manN s.ns := manB_length s
  have hm4 : 4 ≤ manN s.ns := by unfold manN; omega
  unfold pieces
  rw [run_head hF (by omega) (by have := hW.man; omega) hl]
  obtain ⟨p1, e1⟩ := run_man hL hW hG (frL s.C.toNat s.col.length s.col ++ [magic2])
  rw [e1]
  obtain ⟨p2, e2⟩ := run_frames (c := s.C.toNat) (by have := hF.c1; omega) [magic2] s.col.length s.col ⟨s.K.toNat, s.N.toNat, s.I.toNat, s.C.toNat, s.ns, s.zs.map Int.toNat, [], (manB s).length, s.col.length, tot s.zs, if s.col = [] then 3 else 2, p1⟩ (Nat.le_refl _) rfl rfl (by simp) (by
    intro m hm hu
    simp only [List.nil_append] at hm hu ⊢
    by_cases q : bAt s.col m = 0
    · exact q
    · exfalso
      have h3 : s.col.length = _ := hG
      unfold usedI at hu
      by_cases hki : s.K.toNat ≤ s.I.toNat
      · rw [if_pos hki] at hu
        omega
      · rw [if_neg hki] at hu
        refine hB ⟨by have := hF.k1; omega, m, hm, ?_, q⟩
        omega)
  rw [e2]
  refine ⟨moveP ⟨s.K.toNat, s.N.toNat, s.I.toNat, s.C.toNat, s.ns, s.zs.map Int.toNat, [] ++ s.col, (manB s).length, s.col.length, tot s.zs, 3, p2⟩ magic2, ?_, ?_, ?_⟩
  · unfold runP
    rw [if_pos ⟨(sz3 rfl).symm, by simp⟩]
    have : readP ⟨s.K.toNat, s.N.toNat, s.I.toNat, s.C.toNat, s.ns, s.zs.map Int.toNat, [] ++ s.col, (manB s).length, s.col.length, tot s.zs, 3, p2⟩ magic2 = .ok ⟨s.K.toNat, s.N.toNat, s.I.toNat, s.C.toNat, s.ns, s.zs.map Int.toNat, [] ++ s.col, (manB s).length, s.col.length, tot s.zs, 3, p2⟩ := by
      unfold readP
      rw [if_neg (by simp), if_neg (by simp), if_neg (by simp)]
      unfold tailP
      have : begE magic2 magic2 = none := by simpa using begE_self magic2 []
      rw [this]
      simp only
      rw [if_neg (by rw [sz3 rfl]; decide)]
    simp only at this ⊢
    rw [this]
    rfl
  · rfl
  · simp [St.shd, shdOf, moveP]
theorem parse_wr {s : Sh} (hF : s.Fine) (hL : s.Listed) (hW : s.Few) (hG : s.Long) (hB : ¬ s.Bad) (x : List UInt8) : parseE (wrB s ++ x) = if x = [] then .ok (shdOf s) else .error (9, (wrB s).length) := by
  obtain ⟨st, h1, h2, h3⟩ := run_wr hF hL hW hG hB
  rw [← pieces_flat hF.c1, ← h3]
  exact parse_run h1 h2 x
theorem parse_wr_cut {s : Sh} (hF : s.Fine) (hL : s.Listed) (hW : s.Few) (hG : s.Long) (hB : ¬ s.Bad) {m : Nat} (hm : m < (wrB s).length) : parseE ((wrB s).take m) = .error (4, m) := by
  obtain ⟨st, h1, h2, h3⟩ := run_wr hF hL hW hG hB
  rw [← pieces_flat hF.c1] at hm ⊢
  exact parse_short h1 hm
end Go.Proofs.YtlghjjennhpjeaaGreatDoor

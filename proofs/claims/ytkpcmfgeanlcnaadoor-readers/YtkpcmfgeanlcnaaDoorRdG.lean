/-
  The statements' own Reader with what it was fed: feed.
  The statements' own Reader: feed.
  The statements' own Reader: finish.
  The statements' own Reader, closed; the statement on Readers.
  The statement on Readers.
-/
import Derived.Test.YtkpcmfgeanlcnaaDoorPaB
import Derived.Test.YtkpcmfgeanlcnaaDoorRdA
import Derived.Test.YtkpcmfgeanlcnaaDoorRdB
import Derived.Lib.SlBytesConst
namespace Go.Proofs.YtkpcmfgeanlcnaaDoor
open Go.RowKit Go.Deep

/-- A Reading stays what it is where a block of another kind, none of its own, turns. -/
theorem RSt.turn {B : Nat} {w w' : World} {rb b : Nat} {l : List UInt8} {M : Nat → Prop} {cs : List Value} {ty : TypeId} (h : RSt B w rb l M) (hr : RowAt w b cs ty) (hM : ¬ M b)
    (t1 : ty ≠ 147) (t2 : ty ≠ 205) (t3 : 9 ≠ ty) (t4 : 3 ≠ ty) (hb : But w.heap.size (· = b) w w') : RSt B w' rb l M := by
  cases h with
  | live vC vT h hm =>
    obtain ⟨s, t, vN, vS, I, hS, hl⟩ := h
    refine .live vC vT ⟨s, t, vN, vS, ⟨?_, owns_other hr hb I.on t3, owns_other hr hb I.os t4, ?_, ?_, I.ap, Nat.le_trans I.size hb.size⟩, hS, hl⟩ hm
    · exact RowAt.later I.rd hb (RowAt.lt I.rd) (fun e => hM (e ▸ hm rb (.inl rfl)))
    · exact owns_later I.oc (fun g hg => hb.block g (World.ownsRow.lt I.oc g hg).2 (fun e => hM (e ▸ hm g (.inr (.inl hg)))))
    · exact owns_later I.ot (fun g hg => hb.block g (World.ownsRow.lt I.ot g hg).2 (fun e => hM (e ▸ hm g (.inr (.inr hg)))))
  | dead h hm =>
    obtain ⟨v, d, e, hd, hR, hC, h4, hE⟩ := h
    exact .dead ⟨v, d, e, hd, RowAt.later hR hb (RowAt.lt hR) (fun e => hM (e ▸ hm)), hC.other hr t1 t2 hb, h4, hE⟩ hm
/-- A row of bytes is a block. -/
theorem OwnB.row {B : Nat} {w : World} {v : Value} {l : List UInt8} (h : OwnB B w v l) {g : Nat} (hg : v.ownBlock = some g) : ∃ cs, RowAt w g cs 5 := by
  obtain ⟨cur, hh⟩ := owns_kind h hg
  exact ⟨cur.toList, by unfold RowAt; rw [hh]⟩
theorem grown_none {w w' : World} (h : w.grownBy w' none) : Below w.heap.size w w' := (But.of_grown h).below (fun _ _ e => by cases e)
theorem grown_some {w w' : World} {g : Nat} (h : w.grownBy w' (some g)) : But w.heap.size (· = g) w w' := (But.of_grown h).mono (Nat.le_refl _) (fun _ e => (Option.some.inj e).symm)
theorem RSt.grown {B B' : Nat} {w w' : World} {rb : Nat} {l x : List UInt8} {M : Nat → Prop} {v : Value} (h : RSt B w rb l M) (ho : OwnB B' w v x) (hM : ∀ g, v.ownBlock = some g → ¬ M g) (hg : w.grownBy w' v.ownBlock) : RSt B w' rb l M := by
  cases hv : v.ownBlock with
  | none => rw [hv] at hg; exact h.below (grown_none hg)
  | some g =>
    rw [hv] at hg
    obtain ⟨cs, hr⟩ := ho.row hv
    exact h.turn hr (hM g hv) (by decide) (by decide) (by decide) (by decide) (grown_some hg)
theorem RowAt.grown {B b : Nat} {w w' : World} {x : List UInt8} {cs : List Value} {ty : TypeId} {v : Value} (h : RowAt w b cs ty) (ho : OwnB B w v x) (hty : ty ≠ 5) (hg : w.grownBy w' v.ownBlock) : RowAt w' b cs ty := by
  cases hv : v.ownBlock with
  | none => rw [hv] at hg; exact h.later (S := fun _ => False) (.of_below (grown_none hg)) h.lt id
  | some g =>
    rw [hv] at hg
    obtain ⟨cs', hr⟩ := ho.row hv
    exact h.later (grown_some hg) h.lt (row_other h hr hty)

/-- The Reader, what it was fed, and that it is not closed. -/
structure Sd (w0 w : World) (sb xb rb : Nat) (l : List UInt8) (vb : Value) (M : Nat → Prop) : Prop where
  side : RowAt w sb [.pointer (some ⟨xb, 0, none⟩), vb, .bool false] 47
  rdr : RdrAt w xb (some ⟨xb, 0, none⟩) (some ⟨rb, 0, none⟩)
  rst : RSt w0.heap.size w rb l M
  own : OwnB w0.heap.size w vb l
  mB : ∀ k, M k → w0.heap.size ≤ k ∧ k < w.heap.size
  mX : ¬ M xb
  mS : ¬ M sb
  mb : ∀ g, vb.ownBlock = some g → ¬ M g
  sB : w0.heap.size ≤ sb
  xB : w0.heap.size ≤ xb
  rB : w0.heap.size ≤ rb
  bel : Below w0.heap.size w0 w
  len : l.length ≤ 3000
theorem Sd.below {w0 w w' : World} {sb xb rb : Nat} {l : List UInt8} {vb : Value} {M : Nat → Prop} (h : Sd w0 w sb xb rb l vb M) (hb : Below w.heap.size w w') : Sd w0 w' sb xb rb l vb M :=
  ⟨h.side.later (S := fun _ => False) (.of_below hb) h.side.lt id, RowAt.later h.rdr (S := fun _ => False) (.of_below hb) (RowAt.lt h.rdr) id, h.rst.below hb, owns_later h.own (fun g hg => hb.block g (World.ownsRow.lt h.own g hg).2),
   fun k hk => ⟨(h.mB k hk).1, Nat.lt_of_lt_of_le (h.mB k hk).2 hb.size⟩, h.mX, h.mS, h.mb, h.sB, h.xB, h.rB, h.bel.trans (hb.mono h.bel.size), h.len⟩

/-- The document's Parse of a row of one's own. -/
theorem parse_own {B : Nat} {v : Value} {l : List UInt8} {w : World} (h : OwnB B w v l) (hl : l.length < 2 ^ 58) : Calls Tryd.prog 23 #[v] w (ParsePost l w) := by
  have h2 := h
  rcases h.2 with ⟨rfl, h0⟩ | ⟨g, c, cur, rfl, hg, hh, hc, _⟩
  · have : l = [] := List.length_eq_zero_iff.1 h0
    subst this
    exact parse_nil w
  · have hlt : g < w.heap.size := (World.ownsRow.lt h g rfl).2
    refine parse_any g 0 c l hl hc w (fun i hi => ?_) hlt
    have := World.ownsRow.cellAt h2 i (by omega)
    rw [Nat.zero_add, this, u8V_get hi]
/-- What is told of bytes that may go on. -/
theorem feed_told {L : List UInt8} {s : Shd} {e p : Nat} (h : told L = (s, e, p)) : feedE L = if e = 4 then (0, 0) else (e, p) := by
  unfold told at h
  unfold feedE
  cases hp : parseE L with
  | error x =>
    rw [hp] at h
    simp only [Prod.mk.injEq] at h
    obtain ⟨_, rfl, rfl⟩ := h
    rfl
  | ok x =>
    rw [hp] at h
    simp only [Prod.mk.injEq] at h
    obtain ⟨_, rfl, rfl⟩ := h
    rfl
end Go.Proofs.YtkpcmfgeanlcnaaDoor

namespace Go.Proofs.YtkpcmfgeanlcnaaDoor
open Go.RowKit Go.Deep

theorem Byt.take {w : World} {b : Nat} {p : List UInt8} (h : Byt w b 0 p) (n : Nat) : Byt w b 0 (p.take n) := fun i hi => by
  have h1 : i < n := by simp at hi; omega
  have h2 : i < p.length := by simp at hi; omega
  rw [h i h2]
  simp [bAt, List.getD_eq_getElem?_getD, h1]
theorem Sd.fed {w0 w w2 w3 : World} {sb xb rb : Nat} {l L : List UInt8} {vb v3 : Value} {M M' : Nat → Prop} (hS : Sd w0 w sb xb rb l vb M) (g1 : But w.heap.size M w w2) (g2 : RSt w0.heap.size w2 rb L M') (g3 : ∀ k, M' k → k < w2.heap.size ∧ (k < w.heap.size → M k)) (g4 : RdrAt w2 xb (some ⟨xb, 0, none⟩) (some ⟨rb, 0, none⟩))
    (hgrow : w2.grownBy w3 vb.ownBlock) (ow : OwnB w0.heap.size w3 v3 L) (hblk : v3.ownBlock = vb.ownBlock ∨ v3.ownBlock = some w2.heap.size) (hL : L.length ≤ 3000) : Sd w0 (w3.setCell ⟨sb, 1, none⟩ v3) sb xb rb L v3 M' := by
  have hB := hS.bel.size
  have hs12 := g1.size
  have hot2 : OwnB w0.heap.size w2 vb l := owns_later hS.own (fun g hg => g1.block g (World.ownsRow.lt hS.own g hg).2 (hS.mb g hg))
  have s2 := hS.side.later g1 hS.side.lt hS.mS
  have s3 := s2.grown hot2 (by decide) hgrow
  have r3 := RowAt.grown g4 hot2 (by decide) hgrow
  have hS' : ¬ M' sb := fun h => hS.mS ((g3 _ h).2 hS.side.lt)
  have hb' : ∀ g, vb.ownBlock = some g → ¬ M' g := fun g hg h => hS.mb g hg ((g3 _ h).2 (World.ownsRow.lt hS.own g hg).2)
  have q3 := g2.grown hot2 hb' hgrow
  have hB4 := (But.refl w3.heap.size (· = sb) w3).setCell (p := ⟨sb, 1, none⟩) (.inr rfl) v3
  have hs23 : w2.heap.size ≤ w3.heap.size := (But.of_grown hgrow).size
  refine ⟨s3.set 1 v3, RowAt.later r3 hB4 (RowAt.lt r3) (row_other r3 s3 (by decide)), q3.turn s3 hS' (by decide) (by decide) (by decide) (by decide) hB4, owns_other s3 hB4 ow (by decide), fun k hk => ⟨?_, ?_⟩, fun h => hS.mX ((g3 _ h).2 (RowAt.lt hS.rdr)), hS', fun g hg h => ?_, hS.sB, hS.xB, hS.rB, ?_, hL⟩
  · rcases Nat.lt_or_ge k w.heap.size with q | q
    · exact (hS.mB k ((g3 k hk).2 q)).1
    · omega
  · have := (g3 k hk).1
    have := hB4.size
    omega
  · rcases hblk with e | e
    · exact hb' g (e ▸ hg) h
    · rw [e] at hg
      cases hg
      have := (g3 _ h).1
      omega
  · have b1 : Below w0.heap.size w w2 := (g1.mono hB (fun _ x => x)).below (fun k hk h => by have := (hS.mB k h).1; omega)
    have b2 : Below w0.heap.size w2 w3 := ((But.of_grown hgrow).mono (by omega) (fun _ x => x)).below (fun k hk h => by have := (World.ownsRow.lt hS.own k h).1; omega)
    have b3 : Below w0.heap.size w3 (w3.setCell ⟨sb, 1, none⟩ v3) := (hB4.mono (by omega) (fun _ x => x)).below (fun k hk h => by have := hS.sB; omega)
    exact ((hS.bel.trans b1).trans b2).trans b3
section
variable (w0 w : World) (sb xb rb : Nat) (l p : List UInt8) (vb : Value) (M : Nat → Prop) (hS : Sd w0 w sb xb rb l vb M) (pb cap : Nat) (hcap : p.length ≤ cap) (hpl : p.length ≤ 9223372036854775807) (hp : Byt w pb 0 p) (hpb : pb < w.heap.size) (hpM : ¬ M pb)
  (hTab : Tab w0) (hPow : Pow w0) (h4 : 4 ≤ w0.heap.size) (a : Addr) (hE : Early w0 a) (hT : ErrT w0)
set_option maxHeartbeats 1000000 in
set_option maxRecDepth 100000 in
include hS hcap hpl hp hpb hpM hTab hPow h4 hE hT in
theorem sfeed_any : Calls Tryd.prog 15 #[.pointer (some ⟨sb, 0, none⟩), .slice (some ⟨pb, 0, none⟩) p.length cap] w fun q w' => q = .returned (.bool true) ∧ ∃ vb' M', Sd w0 w' sb xb rb (l ++ p.take (3000 - l.length)) vb' M' := by
  obtain ⟨p', ep⟩ : ∃ p', p.take (3000 - l.length) = p' := ⟨_, rfl⟩
  have hp' : Byt w pb 0 p' := ep ▸ hp.take _
  have hlen' : p'.length = min (3000 - l.length) p.length := by rw [← ep]; simp
  rw [ep]
  have hll := hS.len
  have hB := hS.bel.size
  have KF := feed_any w0.heap.size xb rb l p' M (.slice (some ⟨pb, 0, none⟩) p'.length cap) w hS.rdr hS.mX hS.rst (.inr ⟨_, _, rfl, by omega, fun _ => hpM, fun j hj => by rw [add_off]; exact hp' j hj⟩) (by omega) (hTab.below hS.bel (by omega)) (hPow.belows hS.bel h4) h4 hS.rB (fun k hk => by have := (hS.mB k hk).1; omega) a (hE.belows hS.bel) (hT.below hS.bel (by omega))
  obtain ⟨L, eL⟩ : ∃ L, l ++ p' = L := ⟨_, rfl⟩
  have hL3 : L.length ≤ 3000 := by rw [← eL, List.length_append]; omega
  obtain ⟨⟨s, e, pp⟩, ht⟩ : ∃ x, told L = x := ⟨_, rfl⟩
  have hft := feed_told ht
  rw [eL] at KF
  unfold FeedPost at KF
  rw [hft] at KF
  obtain ⟨i0, hi0, hz0, hz1, hz2⟩ := info_parts infoB8
  obtain ⟨ba, ca, eva, hca⟩ := hS.own.slice
  have hwr : IntKind.i64.wrap (3000 - (l.length : Int)) = 3000 - (l.length : Int) := IntWalk.i64_in _ (by omega)
  have c0 := hS.side.cell (i := 0) rfl
  have c1 := hS.side.cell (i := 1) rfl
  have c2 := hS.side.cell (i := 2) rfl
  rw [eva] at c1
  have EL : Hid (l ++ p' = L) := eL
  have HL : Hid (p'.length = min (3000 - l.length) p.length) := hlen'
  have hp3 : p'.length ≤ 3000 := by omega
  have hnewsW : ∀ w2, But w.heap.size M w w2 → ∀ j u, (u8V p')[j]? = some u → w2.cell? (Addr.add ⟨pb, 0, none⟩ j) = some u := fun w2 g j u hj => by
    obtain ⟨h1, rfl⟩ := u8V_at hj
    rw [add_off]
    exact (g.cell (p := ⟨pb, 0 + j, none⟩) hpb hpM).trans (hp' j h1)
  have hotW : ∀ w2, But w.heap.size M w w2 → OwnB w0.heap.size w2 vb l := fun w2 g1 => owns_later hS.own (fun g hg => g1.block g (World.ownsRow.lt hS.own g hg).2 (hS.mb g hg))
  have sideW : ∀ w2, But w.heap.size M w w2 → RowAt w2 sb [.pointer (some ⟨xb, 0, none⟩), vb, .bool false] 47 := fun w2 g1 => hS.side.later g1 hS.side.lt hS.mS
  have sizeW : ∀ w2, But w.heap.size M w w2 → w0.heap.size ≤ w2.heap.size := fun w2 g1 => Nat.le_trans hB g1.size
  have fedW := fun w2 w3 v3 M' => Sd.fed (w2 := w2) (w3 := w3) (L := L) (v3 := v3) (M' := M') hS
  have hc' : p'.length ≤ cap := by omega
  rw [eva] at hotW sideW fedW
  have HS : Hid _ := hS
  clear hS hTab hPow hE hT h4 hp hp' hcap hft eva hpb hpM eL ep
  by_cases hlong : 3000 - l.length < p.length
  · have sl := slice_hi (some ⟨pb, 0, none⟩) p.length cap (3000 - (l.length : Int)) p'.length (by omega) (by omega)
    clear hlen' HL
    by_cases q4 : e = 4
    · simp only [if_pos q4] at KF
      subst q4
      go_enter Tryd.func15, Tryd.ntmps15
      go_upto_region 7 with (first
        | (go_at_call 28; (with_reducible refine KF.mono ?_); rintro q w2 ⟨rfl, g1, ⟨M', g2, g3⟩, g4⟩; have s2 := sideW _ g1; have d0 := s2.cell (i := 0) rfl; have d1 := s2.cell (i := 1) rfl; have d2 := s2.cell (i := 2) rfl; have hot2 := hotW _ g1; unfold OwnB at hot2; have hsz2 := sizeW _ g1)
        | (at_builtin; refine wpList_append_own_at _ rfl _ _ 24 rfl w0.heap.size 5 i0 (.int .u8 0) 1 1 Tryd.underlying24 hi0 hz0 hz1 hz2 rfl (by decide) _ _ _ rfl (by exact hot2) ⟨pb, 0, none⟩ p'.length cap (u8V p') rfl (by rw [u8V_length, Nat.mul_one]) (by exact hnewsW _ g1) (u8V_one _) (by unfold maxLen; omega) (by omega) (by exact hsz2) ?_; intro v3 w3 hown3 hgrow3 _ hblk3; have ow := own_app hown3; rw [EL.out] at ow; obtain ⟨b3, c3, rfl, hc3⟩ := ow.slice; have D4 := fedW _ _ _ _ g1 g2 g3 g4 hgrow3 ow hblk3 hL3; have s3 := s2.grown (by exact hot2) (by decide) hgrow3; have x1 := s3.cell (i := 1) rfl; have y1 := s3.frozen 1))
      generalize World.setCell w3 _ _ = w4 at D4 ⊢
      have KR := parse_own D4.own (by omega)
      have z1 := D4.side.cell (i := 1) rfl
      clear KF c0 c1 c2 d0 d1 d2 x1 y1 hnewsW hotW sideW sizeW fedW s2 s3 hown3 hgrow3 hot2 ow hblk3
      go_upto_region 8 with (first | (go_at_call 23; (with_reducible refine KR.mono ?_); rintro q w5 hq1; obtain ⟨vN, vS, vC, rfl, hB5, hO5⟩ := hq1.told ht; clear hq1; unfold shardL; obtain ⟨bn, cn, rfl⟩ := owns_slice hO5.n; obtain ⟨bz, cz, rfl⟩ := owns_slice hO5.z; obtain ⟨bc, cc, rfl⟩ := owns_slice hO5.c))
      have D6 := (D4.below hB5).below ((Below.refl w5.heap.size w5).alloc (Nat.le_refl _) (.cells #[.int .i64 (s.k : Int), .int .i64 (s.n : Int), .int .i64 (s.i : Int), .int .i64 (s.c : Int), .slice bn s.names.length cn, .slice bz s.sizes.length cz, .slice bc s.col.length cc] 36))
      generalize World.alloc w5 _ = w6 at D6 ⊢
      go_wp2_with (first | (go_at_call 20; (with_reducible refine (numL_any _ _).mono ?_); rintro q w' ⟨rfl, hw'⟩; obtain rfl := hw'.symm))
      go_ret
      exact ⟨rfl, _, _, by rw [EL.out]; exact D6⟩
    · simp only [if_neg q4] at KF
      have q5 : ((e : Int) == 4) = false := by simp; omega
      go_enter Tryd.func15, Tryd.ntmps15
      go_upto_region 7 with (first
        | (go_at_call 28; (with_reducible refine KF.mono ?_); rintro q w2 ⟨rfl, g1, ⟨M', g2, g3⟩, g4⟩; have s2 := sideW _ g1; have d0 := s2.cell (i := 0) rfl; have d1 := s2.cell (i := 1) rfl; have d2 := s2.cell (i := 2) rfl; have hot2 := hotW _ g1; unfold OwnB at hot2; have hsz2 := sizeW _ g1)
        | (at_builtin; refine wpList_append_own_at _ rfl _ _ 24 rfl w0.heap.size 5 i0 (.int .u8 0) 1 1 Tryd.underlying24 hi0 hz0 hz1 hz2 rfl (by decide) _ _ _ rfl (by exact hot2) ⟨pb, 0, none⟩ p'.length cap (u8V p') rfl (by rw [u8V_length, Nat.mul_one]) (by exact hnewsW _ g1) (u8V_one _) (by unfold maxLen; omega) (by omega) (by exact hsz2) ?_; intro v3 w3 hown3 hgrow3 _ hblk3; have ow := own_app hown3; rw [EL.out] at ow; obtain ⟨b3, c3, rfl, hc3⟩ := ow.slice; have D4 := fedW _ _ _ _ g1 g2 g3 g4 hgrow3 ow hblk3 hL3; have s3 := s2.grown (by exact hot2) (by decide) hgrow3; have x1 := s3.cell (i := 1) rfl; have y1 := s3.frozen 1))
      generalize World.setCell w3 _ _ = w4 at D4 ⊢
      have KR := parse_own D4.own (by omega)
      have z1 := D4.side.cell (i := 1) rfl
      clear KF c0 c1 c2 d0 d1 d2 x1 y1 hnewsW hotW sideW sizeW fedW s2 s3 hown3 hgrow3 hot2 ow hblk3
      go_upto_region 8 with (first | (go_at_call 23; (with_reducible refine KR.mono ?_); rintro q w5 hq1; obtain ⟨vN, vS, vC, rfl, hB5, hO5⟩ := hq1.told ht; clear hq1; unfold shardL; obtain ⟨bn, cn, rfl⟩ := owns_slice hO5.n; obtain ⟨bz, cz, rfl⟩ := owns_slice hO5.z; obtain ⟨bc, cc, rfl⟩ := owns_slice hO5.c))
      have D6 := (D4.below hB5).below ((Below.refl w5.heap.size w5).alloc (Nat.le_refl _) (.cells #[.int .i64 (s.k : Int), .int .i64 (s.n : Int), .int .i64 (s.i : Int), .int .i64 (s.c : Int), .slice bn s.names.length cn, .slice bz s.sizes.length cz, .slice bc s.col.length cc] 36))
      generalize World.alloc w5 _ = w6 at D6 ⊢
      go_wp2_with (first | (go_at_call 20; (with_reducible refine (numL_any _ _).mono ?_); rintro q w' ⟨rfl, hw'⟩; obtain rfl := hw'.symm))
      go_ret
      exact ⟨rfl, _, _, by rw [EL.out]; exact D6⟩
  · have hpp : p.length = p'.length := by omega
    have hshort : ¬ (3000 - (l.length : Int) < (p'.length : Int)) := by omega
    rw [hpp]
    clear hlen' HL hpp hlong hpl
    by_cases q4 : e = 4
    · simp only [if_pos q4] at KF
      subst q4
      go_enter Tryd.func15, Tryd.ntmps15
      go_upto_region 7 with (first
        | (go_at_call 28; (with_reducible refine KF.mono ?_); rintro q w2 ⟨rfl, g1, ⟨M', g2, g3⟩, g4⟩; have s2 := sideW _ g1; have d0 := s2.cell (i := 0) rfl; have d1 := s2.cell (i := 1) rfl; have d2 := s2.cell (i := 2) rfl; have hot2 := hotW _ g1; unfold OwnB at hot2; have hsz2 := sizeW _ g1)
        | (at_builtin; refine wpList_append_own_at _ rfl _ _ 24 rfl w0.heap.size 5 i0 (.int .u8 0) 1 1 Tryd.underlying24 hi0 hz0 hz1 hz2 rfl (by decide) _ _ _ rfl (by exact hot2) ⟨pb, 0, none⟩ p'.length cap (u8V p') rfl (by rw [u8V_length, Nat.mul_one]) (by exact hnewsW _ g1) (u8V_one _) (by unfold maxLen; omega) (by omega) (by exact hsz2) ?_; intro v3 w3 hown3 hgrow3 _ hblk3; have ow := own_app hown3; rw [EL.out] at ow; obtain ⟨b3, c3, rfl, hc3⟩ := ow.slice; have D4 := fedW _ _ _ _ g1 g2 g3 g4 hgrow3 ow hblk3 hL3; have s3 := s2.grown (by exact hot2) (by decide) hgrow3; have x1 := s3.cell (i := 1) rfl; have y1 := s3.frozen 1))
      generalize World.setCell w3 _ _ = w4 at D4 ⊢
      have KR := parse_own D4.own (by omega)
      have z1 := D4.side.cell (i := 1) rfl
      clear KF c0 c1 c2 d0 d1 d2 x1 y1 hnewsW hotW sideW sizeW fedW s2 s3 hown3 hgrow3 hot2 ow hblk3
      go_upto_region 8 with (first | (go_at_call 23; (with_reducible refine KR.mono ?_); rintro q w5 hq1; obtain ⟨vN, vS, vC, rfl, hB5, hO5⟩ := hq1.told ht; clear hq1; unfold shardL; obtain ⟨bn, cn, rfl⟩ := owns_slice hO5.n; obtain ⟨bz, cz, rfl⟩ := owns_slice hO5.z; obtain ⟨bc, cc, rfl⟩ := owns_slice hO5.c))
      have D6 := (D4.below hB5).below ((Below.refl w5.heap.size w5).alloc (Nat.le_refl _) (.cells #[.int .i64 (s.k : Int), .int .i64 (s.n : Int), .int .i64 (s.i : Int), .int .i64 (s.c : Int), .slice bn s.names.length cn, .slice bz s.sizes.length cz, .slice bc s.col.length cc] 36))
      generalize World.alloc w5 _ = w6 at D6 ⊢
      go_wp2_with (first | (go_at_call 20; (with_reducible refine (numL_any _ _).mono ?_); rintro q w' ⟨rfl, hw'⟩; obtain rfl := hw'.symm))
      go_ret
      exact ⟨rfl, _, _, by rw [EL.out]; exact D6⟩
    · simp only [if_neg q4] at KF
      have q5 : ((e : Int) == 4) = false := by simp; omega
      go_enter Tryd.func15, Tryd.ntmps15
      go_upto_region 7 with (first
        | (go_at_call 28; (with_reducible refine KF.mono ?_); rintro q w2 ⟨rfl, g1, ⟨M', g2, g3⟩, g4⟩; have s2 := sideW _ g1; have d0 := s2.cell (i := 0) rfl; have d1 := s2.cell (i := 1) rfl; have d2 := s2.cell (i := 2) rfl; have hot2 := hotW _ g1; unfold OwnB at hot2; have hsz2 := sizeW _ g1)
        | (at_builtin; refine wpList_append_own_at _ rfl _ _ 24 rfl w0.heap.size 5 i0 (.int .u8 0) 1 1 Tryd.underlying24 hi0 hz0 hz1 hz2 rfl (by decide) _ _ _ rfl (by exact hot2) ⟨pb, 0, none⟩ p'.length cap (u8V p') rfl (by rw [u8V_length, Nat.mul_one]) (by exact hnewsW _ g1) (u8V_one _) (by unfold maxLen; omega) (by omega) (by exact hsz2) ?_; intro v3 w3 hown3 hgrow3 _ hblk3; have ow := own_app hown3; rw [EL.out] at ow; obtain ⟨b3, c3, rfl, hc3⟩ := ow.slice; have D4 := fedW _ _ _ _ g1 g2 g3 g4 hgrow3 ow hblk3 hL3; have s3 := s2.grown (by exact hot2) (by decide) hgrow3; have x1 := s3.cell (i := 1) rfl; have y1 := s3.frozen 1))
      generalize World.setCell w3 _ _ = w4 at D4 ⊢
      have KR := parse_own D4.own (by omega)
      have z1 := D4.side.cell (i := 1) rfl
      clear KF c0 c1 c2 d0 d1 d2 x1 y1 hnewsW hotW sideW sizeW fedW s2 s3 hown3 hgrow3 hot2 ow hblk3
      go_upto_region 8 with (first | (go_at_call 23; (with_reducible refine KR.mono ?_); rintro q w5 hq1; obtain ⟨vN, vS, vC, rfl, hB5, hO5⟩ := hq1.told ht; clear hq1; unfold shardL; obtain ⟨bn, cn, rfl⟩ := owns_slice hO5.n; obtain ⟨bz, cz, rfl⟩ := owns_slice hO5.z; obtain ⟨bc, cc, rfl⟩ := owns_slice hO5.c))
      have D6 := (D4.below hB5).below ((Below.refl w5.heap.size w5).alloc (Nat.le_refl _) (.cells #[.int .i64 (s.k : Int), .int .i64 (s.n : Int), .int .i64 (s.i : Int), .int .i64 (s.c : Int), .slice bn s.names.length cn, .slice bz s.sizes.length cz, .slice bc s.col.length cc] 36))
      generalize World.alloc w5 _ = w6 at D6 ⊢
      go_wp2_with (first | (go_at_call 20; (with_reducible refine (numL_any _ _).mono ?_); rintro q w' ⟨rfl, hw'⟩; obtain rfl := hw'.symm))
      go_ret
      exact ⟨rfl, _, _, by rw [EL.out]; exact D6⟩
end
end Go.Proofs.YtkpcmfgeanlcnaaDoor

namespace Go.Proofs.YtkpcmfgeanlcnaaDoor
open Go.RowKit Go.Deep

theorem FinPost.told {B : Nat} {w w' : World} {xb : Nat} {M : Nat → Prop} {l : List UInt8} {q : Ending} (h : FinPost B w xb M l q w') {s : Shd} {e p : Nat} (ht : told l = (s, e, p)) :
    ∃ vN vS vC, q = .returned (.tuple #[.agg (shardL s.k s.n s.i s.c vN vS vC).toArray, .int .i64 (e : Int), .int .i64 (p : Int)]) ∧ But w.heap.size (fun k => M k ∨ k = xb) w w' ∧ RdrAt w' xb (some ⟨xb, 0, none⟩) none ∧ Own3 B w' s vN vS vC := by
  obtain ⟨h1, h2, h3⟩ := h
  unfold Proofs.YtkpcmfgeanlcnaaDoor.told at ht
  cases hp : parseE l with
  | error x =>
    rw [hp] at h3 ht
    simp only [Prod.mk.injEq] at h3 ht
    obtain ⟨rfl, rfl, rfl⟩ := ht
    exact ⟨_, _, _, h3, h1, h2, Own3.none _ _⟩
  | ok x =>
    rw [hp] at h3 ht
    simp only [Prod.mk.injEq] at h3 ht
    obtain ⟨rfl, rfl, rfl⟩ := ht
    obtain ⟨vN, vS, vC, e1, o1, o2, o3⟩ := h3
    exact ⟨vN, vS, vC, e1, h1, h2, o1, o2, o3⟩
theorem Own3.turn {B b : Nat} {w w' : World} {s : Shd} {vN vS vC : Value} {cs : List Value} {ty : TypeId} (h : Own3 B w s vN vS vC) (hr : RowAt w b cs ty) (t1 : 9 ≠ ty) (t2 : 3 ≠ ty) (t3 : 5 ≠ ty) (hb : But w.heap.size (· = b) w w') : Own3 B w' s vN vS vC :=
  ⟨owns_other hr hb h.n t1, owns_other hr hb h.z t2, owns_other hr hb h.c t3⟩
/-- The Reader, closed. -/
structure SdC (w0 w : World) (sb xb : Nat) (b : Option Addr) (n c : Nat) : Prop where
  side : RowAt w sb [.pointer (some ⟨xb, 0, none⟩), .slice b n c, .bool true] 47
  rdr : RdrAt w xb (some ⟨xb, 0, none⟩) none
  bel : Below w0.heap.size w0 w
  len : n ≤ 3000
theorem SdC.below {w0 w w' : World} {sb xb : Nat} {b : Option Addr} {n c : Nat} (h : SdC w0 w sb xb b n c) (hb : Below w.heap.size w w') : SdC w0 w' sb xb b n c :=
  ⟨h.side.later (S := fun _ => False) (.of_below hb) h.side.lt id, RowAt.later h.rdr (S := fun _ => False) (.of_below hb) (RowAt.lt h.rdr) id, h.bel.trans (hb.mono h.bel.size), h.len⟩
/-- What finish tells. -/
def FinTold (q : Ending) : Prop := ∃ (s : Shd) (bn : Option Addr) (cn : Nat) (bz : Option Addr) (cz : Nat) (bc : Option Addr) (cc : Nat), q = .returned (.tuple #[.agg #[.int .i64 (s.k : Int), .int .i64 (s.n : Int), .int .i64 (s.i : Int), .int .i64 (s.c : Int), .slice bn s.names.length cn, .slice bz s.sizes.length cz, .slice bc s.col.length cc], .bool true])
section
variable (w0 w : World) (sb xb rb : Nat) (l : List UInt8) (vb : Value) (M : Nat → Prop) (hS : Sd w0 w sb xb rb l vb M)
  (hTab : Tab w0) (hPow : Pow w0) (h4 : 4 ≤ w0.heap.size) (a : Addr) (hE : Early w0 a) (hT : ErrT w0)
set_option maxHeartbeats 1000000 in
set_option maxRecDepth 100000 in
include hS hTab hPow h4 hE hT in
theorem sfinish_any : Calls Tryd.prog 16 #[.pointer (some ⟨sb, 0, none⟩)] w fun q w' => FinTold q ∧ ∃ b c, SdC w0 w' sb xb b l.length c := by
  have hb0 := (Below.refl w.heap.size w).alloc (Nat.le_refl _) (.cells zero7.toArray 36)
  have hx0 : RowAt (w.alloc (.cells zero7.toArray 36)) w.heap.size zero7 36 := RowAt.made w _ _
  unfold zero7 shardL at hb0 hx0
  obtain ⟨⟨s, e, p⟩, ht⟩ : ∃ x, told l = x := ⟨_, rfl⟩
  have hSl := hS.side.lt
  have hXl := RowAt.lt hS.rdr
  have hMl := hS.mB
  have hB0 := hS.bel.size
  go_enter Tryd.func16, Tryd.ntmps16
  go_upto_region 1 with (fail)
  generalize hw0 : w.alloc _ = wa at hb0 hx0 ⊢
  clear hw0
  have hSa := hS.below hb0
  have hs0 : w.heap.size < wa.heap.size := hx0.lt
  have hba := hSa.bel
  have KI := finish_any w0.heap.size xb rb l M wa hSa.rdr hSa.mX (by have := hS.xB; omega) hSa.rst (by have := hS.len; omega) (hTab.below hba (by omega)) (hPow.belows hba h4) h4 hS.rB (fun k hk => by have := (hMl k hk).1; omega) (fun k hk => (hSa.mB k hk).2) a (hE.belows hba) (hT.below hba (by omega))
  have e0 := hSa.side.cell (i := 0) rfl
  go_upto_region 2 with (first | (go_at_call 29; (with_reducible refine KI.mono ?_); rintro q w2 hq1; obtain ⟨vN, vS, vC, rfl, k1, k2, hO1⟩ := hq1.told ht; clear hq1; unfold shardL; obtain ⟨bn, cn, rfl⟩ := owns_slice hO1.n; obtain ⟨bz, cz, rfl⟩ := owns_slice hO1.z; obtain ⟨bc, cc, rfl⟩ := owns_slice hO1.c))
  clear KI e0
  have hsx : ¬ (M sb ∨ sb = xb) := fun h => h.elim hS.mS (row_other hSa.side hSa.rdr (by decide))
  have hgx : ¬ (M w.heap.size ∨ w.heap.size = xb) := fun h => h.elim (fun h => by have := (hMl _ h).2; omega) (fun h => by omega)
  have hown2 : OwnB w0.heap.size w2 vb l := owns_later hSa.own (fun g hg => k1.block g (World.ownsRow.lt hSa.own g hg).2 (fun h => by
    rcases h with h | h
    · exact hS.mb g hg h
    · obtain ⟨cs, hr⟩ := hSa.own.row hg
      exact row_other hr hSa.rdr (by decide) h))
  have side2 := hSa.side.later k1 hSa.side.lt hsx
  have x2 := hx0.later k1 hs0 hgx
  have hs2 := k1.size
  have bel2 : Below w0.heap.size w0 w2 := hba.trans ((k1.mono hba.size (fun _ x => x)).below (fun k hk h => by
    rcases h with h | h
    · have := (hMl k h).1; omega
    · have := hS.xB; omega))
  have hb3 := (Below.refl w2.heap.size w2).alloc (Nat.le_refl _) (.cells (shardL s.k s.n s.i s.c (.slice bn s.names.length cn) (.slice bz s.sizes.length cz) (.slice bc s.col.length cc)).toArray 36)
  have hx3 : RowAt (w2.alloc (.cells (shardL s.k s.n s.i s.c (.slice bn s.names.length cn) (.slice bz s.sizes.length cz) (.slice bc s.col.length cc)).toArray 36)) w2.heap.size _ 36 := RowAt.made w2 _ _
  have hO3 := hO1.below hb3
  have own3 : OwnB w0.heap.size _ vb l := owns_later hown2 (fun g hg => hb3.block g (World.ownsRow.lt hown2 g hg).2)
  have side3 := side2.later (S := fun _ => False) (.of_below hb3) side2.lt id
  have rdr3 := RowAt.later k2 (S := fun _ => False) (.of_below hb3) (RowAt.lt k2) id
  have x3 := x2.later (S := fun _ => False) (.of_below hb3) x2.lt id
  have bel3 : Below w0.heap.size w0 _ := bel2.trans (hb3.mono bel2.size)
  have hf : w.heap.size < w2.heap.size := x2.lt
  have hsl2 : sb < w2.heap.size := side2.lt
  obtain ⟨g4, eg4⟩ : ∃ g, w2.heap.size = g := ⟨_, rfl⟩
  unfold shardL at hb3 hx3 hO3 own3 side3 rdr3 x3 bel3
  generalize hw3 : World.alloc w2 _ = w3 at hb3 hx3 hO3 own3 side3 rdr3 x3 bel3 ⊢
  rw [eg4] at hx3 hf hsl2 ⊢
  clear hw3 hO1 hx0 hb0 hb3 k1 k2 hown2 side2 x2 bel2 eg4 hs2
  have e2 := side3.cell (i := 2) rfl
  have f2 := side3.frozen 2
  go_upto_region 6 with (fail)
  clear e2 f2
  have hB4 := (But.refl w3.heap.size (· = sb) w3).setCell (p := ⟨sb, 2, none⟩) (.inr rfl) (.bool true)
  have side4 := side3.set 2 (.bool true)
  have rdr4 : RdrAt _ xb (some ⟨xb, 0, none⟩) none := RowAt.later rdr3 hB4 (RowAt.lt rdr3) (row_other rdr3 side3 (by decide))
  have own4 : OwnB w0.heap.size _ vb l := owns_other side3 hB4 own3 (by decide)
  have hO4 := hO3.turn side3 (by decide) (by decide) (by decide) hB4
  have x4 := x3.later hB4 x3.lt (row_other x3 side3 (by decide))
  have hx4' := hx3.later hB4 hx3.lt (row_other hx3 side3 (by decide))
  have bel4 : Below w0.heap.size w0 _ := bel3.trans ((hB4.mono bel3.size (fun _ x => x)).below (fun k hk h => by have := hS.sB; omega))
  simp only [List.set] at side4
  generalize World.setCell w3 _ _ = w4 at side4 rdr4 own4 hO4 x4 hx4' bel4 ⊢
  clear hB4 side3 rdr3 own3 hO3 x3 hx3 bel3
  have KR := parse_own own4 (by have := hS.len; omega)
  have e1 := side4.cell (i := 1) rfl
  obtain ⟨ba, ca, eva, hca⟩ := own4.slice
  rw [eva] at KR e1 side4
  go_upto_region 7 with (first | (go_at_call 23; (with_reducible refine KR.mono ?_); rintro q w5 hq1; obtain ⟨vN, vS, vC, rfl, hB5, hO5⟩ := hq1.told ht; clear hq1; unfold shardL; obtain ⟨bn', cn', rfl⟩ := owns_slice hO5.n; obtain ⟨bz', cz', rfl⟩ := owns_slice hO5.z; obtain ⟨bc', cc', rfl⟩ := owns_slice hO5.c))
  clear KR e1
  have D4 : SdC w0 w4 sb xb ba l.length ca := ⟨side4, rdr4, bel4, hS.len⟩
  have hs5 := hB5.size
  have hl4 := x4.lt
  have hb6 := (Below.refl w5.heap.size w5).alloc (Nat.le_refl _) (.cells (shardL s.k s.n s.i s.c (.slice bn' s.names.length cn') (.slice bz' s.sizes.length cz') (.slice bc' s.col.length cc')).toArray 36)
  have hx4 : RowAt (w5.alloc (.cells (shardL s.k s.n s.i s.c (.slice bn' s.names.length cn') (.slice bz' s.sizes.length cz') (.slice bc' s.col.length cc')).toArray 36)) w5.heap.size _ 36 := RowAt.made w5 _ _
  have hO6 := hO5.below hb6
  have hO7 := (hO4.below hB5).below hb6
  have hx5 := (hx4'.later (S := fun _ => False) (.of_below hB5) hx4'.lt id).later (S := fun _ => False) (.of_below hb6) (by have := hx4'.lt; omega) id
  have hx6 := (x4.later (S := fun _ => False) (.of_below hB5) x4.lt id).later (S := fun _ => False) (.of_below hb6) (by omega) id
  have D6 := (D4.below hB5).below hb6
  obtain ⟨g7, eg7⟩ : ∃ g, w5.heap.size = g := ⟨_, rfl⟩
  obtain ⟨g2, eg2⟩ : ∃ g, w.heap.size = g := ⟨_, rfl⟩
  have hBg : w0.heap.size ≤ g2 := by omega
  have hgs : ¬ sb = g2 := by omega
  have hgX : ¬ xb = g2 := by omega
  unfold shardL at hb6 hx4 hO6 hO7 hx5 hx6 D6
  have n42 : ¬ g4 = g2 := by omega
  have n72 : ¬ g7 = g2 := by omega
  have n24 : ¬ g2 = g4 := by omega
  have n27 : ¬ g2 = g7 := by omega
  generalize hw6 : World.alloc w5 _ = w6 at hb6 hx4 hO6 hO7 hx5 hx6 D6 ⊢
  have hle := told_le ht
  rw [eg7] at hx4 ⊢
  rw [eg2] at hx6 ⊢
  have hl6 := hx6.lt
  clear hw6 hO4 hO5 hx4' x4 hb6 hB5 D4 side4 rdr4 own4 bel4 hs5 hl4 hSa hS hTab hPow hE hT eva eg2 eg7 hsx hgx hMl hba hs0 hf hsl2 hSl hXl hB0
  have c0 := hx5.cell (i := 0) rfl
  have c1 := hx5.cell (i := 1) rfl
  have c2 := hx5.cell (i := 2) rfl
  have c3 := hx5.cell (i := 3) rfl
  have c4 := hx5.cell (i := 4) rfl
  have c5 := hx5.cell (i := 5) rfl
  have c6 := hx5.cell (i := 6) rfl
  have d0 := hx4.cell (i := 0) rfl
  have d1 := hx4.cell (i := 1) rfl
  have d2 := hx4.cell (i := 2) rfl
  have d3 := hx4.cell (i := 3) rfl
  have d4 := hx4.cell (i := 4) rfl
  have d5 := hx4.cell (i := 5) rfl
  have d6 := hx4.cell (i := 6) rfl
  have z0 := hx6.cell (i := 0) rfl
  have z1 := hx6.cell (i := 1) rfl
  have z2 := hx6.cell (i := 2) rfl
  have z3 := hx6.cell (i := 3) rfl
  have z4 := hx6.cell (i := 4) rfl
  have z5 := hx6.cell (i := 5) rfl
  have z6 := hx6.cell (i := 6) rfl
  have f0 := hx6.frozen
  have hx6d : RowAt w6.drew g2 _ _ := hx6
  have KS := sameShard_any s (by omega) (by omega) (.slice bn s.names.length cn) (.slice bz s.sizes.length cz) (.slice bc s.col.length cc) (.slice bn' s.names.length cn') (.slice bz' s.sizes.length cz') (.slice bc' s.col.length cc') w6.drew (by exact hO7.both.below (Below.refl _ _).drew) (by exact hO6.both.below (Below.refl _ _).drew)
  unfold shardL at KS
  go_region_held3 (fun w' => (w'.cell? ⟨g4, 0, none⟩ = some (.int .i64 (s.k : Int)) ∧ w'.cell? ⟨g4, 1, none⟩ = some (.int .i64 (s.n : Int)) ∧ w'.cell? ⟨g4, 2, none⟩ = some (.int .i64 (s.i : Int)) ∧ w'.cell? ⟨g4, 3, none⟩ = some (.int .i64 (s.c : Int)) ∧ w'.cell? ⟨g4, 4, none⟩ = some (.slice bn s.names.length cn) ∧ w'.cell? ⟨g4, 5, none⟩ = some (.slice bz s.sizes.length cz) ∧ w'.cell? ⟨g4, 6, none⟩ = some (.slice bc s.col.length cc)) ∧ (w'.cell? ⟨g7, 0, none⟩ = some (.int .i64 (s.k : Int)) ∧ w'.cell? ⟨g7, 1, none⟩ = some (.int .i64 (s.n : Int)) ∧ w'.cell? ⟨g7, 2, none⟩ = some (.int .i64 (s.i : Int)) ∧ w'.cell? ⟨g7, 3, none⟩ = some (.int .i64 (s.c : Int)) ∧ w'.cell? ⟨g7, 4, none⟩ = some (.slice bn' s.names.length cn') ∧ w'.cell? ⟨g7, 5, none⟩ = some (.slice bz' s.sizes.length cz') ∧ w'.cell? ⟨g7, 6, none⟩ = some (.slice bc' s.col.length cc'))) (go_keep)
    ((first
      | (go_at_call 20; (with_reducible refine (numL_any _ _).mono ?_); rintro q w' ⟨rfl, hw'⟩; obtain rfl := hw'.symm)
      | (go_at_call 24; (with_reducible refine KS.mono ?_); rintro q w7 ⟨rfl, hB5⟩; have c0' := (hB5.cell (p := ⟨g4, 0, none⟩) (by exact hx5.lt)).trans c0; have c1' := (hB5.cell (p := ⟨g4, 1, none⟩) (by exact hx5.lt)).trans c1; have c2' := (hB5.cell (p := ⟨g4, 2, none⟩) (by exact hx5.lt)).trans c2; have c3' := (hB5.cell (p := ⟨g4, 3, none⟩) (by exact hx5.lt)).trans c3; have c4' := (hB5.cell (p := ⟨g4, 4, none⟩) (by exact hx5.lt)).trans c4; have c5' := (hB5.cell (p := ⟨g4, 5, none⟩) (by exact hx5.lt)).trans c5; have c6' := (hB5.cell (p := ⟨g4, 6, none⟩) (by exact hx5.lt)).trans c6; have d0' := (hB5.cell (p := ⟨g7, 0, none⟩) (by exact hx4.lt)).trans d0; have d1' := (hB5.cell (p := ⟨g7, 1, none⟩) (by exact hx4.lt)).trans d1; have d2' := (hB5.cell (p := ⟨g7, 2, none⟩) (by exact hx4.lt)).trans d2; have d3' := (hB5.cell (p := ⟨g7, 3, none⟩) (by exact hx4.lt)).trans d3; have d4' := (hB5.cell (p := ⟨g7, 4, none⟩) (by exact hx4.lt)).trans d4; have d5' := (hB5.cell (p := ⟨g7, 5, none⟩) (by exact hx4.lt)).trans d5; have d6' := (hB5.cell (p := ⟨g7, 6, none⟩) (by exact hx4.lt)).trans d6; have z0' := (hB5.cell (p := ⟨g2, 0, none⟩) (by exact hx6.lt)).trans z0; have z1' := (hB5.cell (p := ⟨g2, 1, none⟩) (by exact hx6.lt)).trans z1; have z2' := (hB5.cell (p := ⟨g2, 2, none⟩) (by exact hx6.lt)).trans z2; have z3' := (hB5.cell (p := ⟨g2, 3, none⟩) (by exact hx6.lt)).trans z3; have z4' := (hB5.cell (p := ⟨g2, 4, none⟩) (by exact hx6.lt)).trans z4; have z5' := (hB5.cell (p := ⟨g2, 5, none⟩) (by exact hx6.lt)).trans z5; have z6' := (hB5.cell (p := ⟨g2, 6, none⟩) (by exact hx6.lt)).trans z6; have f0' : ∀ i, w7.frozen? ⟨g2, i, none⟩ = false := (hx6d.later (S := fun _ => False) (.of_below hB5) (by exact hx6.lt) id).frozen)))
  go_wp2
  have hx7 := hx6d.later (S := fun _ => False) (.of_below hB5) (by exact hx6.lt) id
  obtain ⟨hF, hG⟩ := set7 (b0 := .int .i64 (s.k : Int)) (b1 := .int .i64 (s.n : Int)) (b2 := .int .i64 (s.i : Int)) (b3 := .int .i64 (s.c : Int)) (b4 := .slice bn s.names.length cn) (b5 := .slice bz s.sizes.length cz) (b6 := .slice bc s.col.length cc) hx7
  have D7 : SdC w0 w7 sb xb ba l.length ca := SdC.below (w := w6) D6 ⟨hB5.os, hB5.tape, hB5.output, hB5.size, hB5.block⟩
  refine bodyPost_ret (results_cell_1 (p := 2) (u := 3) rfl _ _ g2 36 _ (0, 0) _ (by rfl) hF Tryd.underlying36 rfl (by kernel_rfl)) rfl ?_
  exact ⟨⟨s, bn, cn, bz, cz, bc, cc, rfl⟩, ba, ca, D7.side.later hG D7.side.lt hgs, RowAt.later D7.rdr hG (RowAt.lt D7.rdr) hgX, D7.bel.trans ((hG.mono D7.bel.size (fun _ x => x)).below (fun k hk h => by omega)), D7.len⟩
end
end Go.Proofs.YtkpcmfgeanlcnaaDoor

namespace Go.Proofs.YtkpcmfgeanlcnaaDoor
open Go.RowKit Go.Deep

section
variable (w0 w : World) (sb xb : Nat) (b : Option Addr) (n c : Nat) (hS : SdC w0 w sb xb b n c)
set_option maxHeartbeats 1000000 in
set_option maxRecDepth 100000 in
include hS in
theorem sfeed_closed (pb cap : Nat) (hcap : 1 ≤ cap) : Calls Tryd.prog 15 #[.pointer (some ⟨sb, 0, none⟩), .slice (some ⟨pb, 0, none⟩) 1 cap] w fun q w' => q = .returned (.bool true) ∧ Below w.heap.size w w' := by
  have hn := hS.len
  have hwr : IntKind.i64.wrap (3000 - (n : Int)) = 3000 - (n : Int) := IntWalk.i64_in _ (by omega)
  have c0 := hS.side.cell (i := 0) rfl
  have c1 := hS.side.cell (i := 1) rfl
  have c2 := hS.side.cell (i := 2) rfl
  have KF := fun vp => feed_closed (.pointer (some ⟨xb, 0, none⟩)) vp w (closed_done xb w hS.rdr)
  by_cases h : n = 3000
  · have sl := slice_hi (some ⟨pb, 0, none⟩) 1 cap (3000 - (n : Int)) 0 (by omega) (by omega)
    have hq : (3000 : Int) - (n : Int) < 1 := by omega
    clear h hS
    go_enter Tryd.func15, Tryd.ntmps15
    go_wp2_with (first
      | (go_at_call 28; (with_reducible refine (KF _).mono ?_); rintro q w' ⟨rfl, hw'⟩; obtain rfl := hw'.symm)
      | (go_at_call 20; (with_reducible refine (numL_any _ _).mono ?_); rintro q w' ⟨rfl, hw'⟩; obtain rfl := hw'.symm))
    go_ret
    exact ⟨rfl, Below.refl _ _⟩
  · have hq : ¬ (3000 : Int) - (n : Int) < 1 := by omega
    clear h hS
    go_enter Tryd.func15, Tryd.ntmps15
    go_wp2_with (first
      | (go_at_call 28; (with_reducible refine (KF _).mono ?_); rintro q w' ⟨rfl, hw'⟩; obtain rfl := hw'.symm)
      | (go_at_call 20; (with_reducible refine (numL_any _ _).mono ?_); rintro q w' ⟨rfl, hw'⟩; obtain rfl := hw'.symm))
    go_ret
    exact ⟨rfl, Below.refl _ _⟩
theorem sameZero (w : World) : Calls Tryd.prog 24 #[.agg #[.int .i64 0, .int .i64 0, .int .i64 0, .int .i64 0, .slice none 0 0, .slice none 0 0, .slice none 0 0], .agg #[.int .i64 0, .int .i64 0, .int .i64 0, .int .i64 0, .slice none 0 0, .slice none 0 0, .slice none 0 0]] w fun e w' => e = .returned (.bool true) ∧ Below w.heap.size w w' :=
  sameShard_any noShd (by decide) (by decide) _ _ _ _ _ _ w (Own3.none 0 w).both (Own3.none 0 w).both
set_option maxHeartbeats 400000 in
set_option maxRecDepth 100000 in
include hS in
theorem sfinish_closed : Calls Tryd.prog 16 #[.pointer (some ⟨sb, 0, none⟩)] w fun q w' => q = .returned (.tuple #[.agg #[.int .i64 0, .int .i64 0, .int .i64 0, .int .i64 0, .slice none 0 0, .slice none 0 0, .slice none 0 0], .bool true]) ∧ Below w.heap.size w w' := by
  have hb0 := (Below.refl w.heap.size w).alloc (Nat.le_refl _) (.cells #[.int .i64 0, .int .i64 0, .int .i64 0, .int .i64 0, .slice none 0 0, .slice none 0 0, .slice none 0 0] 36)
  have hx0 : RowAt (w.alloc (.cells #[.int .i64 0, .int .i64 0, .int .i64 0, .int .i64 0, .slice none 0 0, .slice none 0 0, .slice none 0 0] 36)) w.heap.size [.int .i64 0, .int .i64 0, .int .i64 0, .int .i64 0, .slice none 0 0, .slice none 0 0, .slice none 0 0] 36 := RowAt.made w [.int .i64 0, .int .i64 0, .int .i64 0, .int .i64 0, .slice none 0 0, .slice none 0 0, .slice none 0 0] _
  go_enter Tryd.func16, Tryd.ntmps16
  go_upto_region 1 with (fail)
  generalize hw0 : w.alloc _ = wa at hb0 hx0 ⊢
  clear hw0
  have hSa := hS.below hb0
  have hs0 : w.heap.size < wa.heap.size := hx0.lt
  have KI : Calls Tryd.prog 29 #[.pointer (some ⟨xb, 0, none⟩)] wa fun q w' => q = .returned (.tuple #[.agg #[.int .i64 0, .int .i64 0, .int .i64 0, .int .i64 0, .slice none 0 0, .slice none 0 0, .slice none 0 0], .int .i64 14, .int .i64 0]) ∧ Below wa.heap.size wa w' := finish_closed (.pointer (some ⟨xb, 0, none⟩)) wa (fun w1 h1 => closed_done xb w1 (hSa.below h1).rdr)
  have e0 := hSa.side.cell (i := 0) rfl
  go_upto_region 2 with (first | (go_at_call 29; (with_reducible refine KI.mono ?_); rintro q w2 ⟨rfl, k1⟩))
  clear KI e0
  have hb3 := (Below.refl w2.heap.size w2).alloc (Nat.le_refl _) (.cells #[.int .i64 0, .int .i64 0, .int .i64 0, .int .i64 0, .slice none 0 0, .slice none 0 0, .slice none 0 0] 36)
  have hx3 : RowAt (w2.alloc (.cells #[.int .i64 0, .int .i64 0, .int .i64 0, .int .i64 0, .slice none 0 0, .slice none 0 0, .slice none 0 0] 36)) w2.heap.size [.int .i64 0, .int .i64 0, .int .i64 0, .int .i64 0, .slice none 0 0, .slice none 0 0, .slice none 0 0] 36 := RowAt.made w2 [.int .i64 0, .int .i64 0, .int .i64 0, .int .i64 0, .slice none 0 0, .slice none 0 0, .slice none 0 0] _
  have hs2 := k1.size
  have D3 := (hSa.below k1).below hb3
  have x3 := (hx0.later (S := fun _ => False) (.of_below k1) hx0.lt id).later (S := fun _ => False) (.of_below hb3) (by omega) id
  have hB3 : Below w.heap.size w _ := (hb0.trans (k1.mono (by omega))).trans (hb3.mono (by omega))
  obtain ⟨g4, eg4⟩ : ∃ g, w2.heap.size = g := ⟨_, rfl⟩
  generalize hw3 : World.alloc w2 _ = w3 at hb3 hx3 D3 x3 hB3 ⊢
  rw [eg4] at hx3 ⊢
  have e2 := D3.side.cell (i := 2) rfl
  have c0 := hx3.cell (i := 0) rfl
  have c1 := hx3.cell (i := 1) rfl
  have c2 := hx3.cell (i := 2) rfl
  have c3 := hx3.cell (i := 3) rfl
  have c4 := hx3.cell (i := 4) rfl
  have c5 := hx3.cell (i := 5) rfl
  have c6 := hx3.cell (i := 6) rfl
  have KS := sameZero w3
  go_upto_region 4 with (first | (go_at_call 24; (with_reducible refine KS.mono ?_); rintro q w4 ⟨rfl, k4⟩))
  clear KS e2 c0 c1 c2 c3 c4 c5 c6 hSa hb0 hx0 hb3 k1 D3 hS
  have hx5 := hx3.later (S := fun _ => False) (.of_below k4) hx3.lt id
  have hx6 := x3.later (S := fun _ => False) (.of_below k4) x3.lt id
  have hB4 : Below w.heap.size w w4 := hB3.trans (k4.mono hB3.size)
  obtain ⟨g2, eg2⟩ : ∃ g, w.heap.size = g := ⟨_, rfl⟩
  have n42 : ¬ g4 = g2 := by omega
  have n24 : ¬ g2 = g4 := by omega
  have EG : Hid (w.heap.size = g2) := eg2
  rw [eg2] at hx6 ⊢
  clear hx3 x3 hB3 k4 eg2 eg4 hw3 hs0 hs2
  have c0 := hx5.cell (i := 0) rfl
  have c1 := hx5.cell (i := 1) rfl
  have c2 := hx5.cell (i := 2) rfl
  have c3 := hx5.cell (i := 3) rfl
  have c4 := hx5.cell (i := 4) rfl
  have c5 := hx5.cell (i := 5) rfl
  have c6 := hx5.cell (i := 6) rfl
  have z0 := hx6.cell (i := 0) rfl
  have z1 := hx6.cell (i := 1) rfl
  have z2 := hx6.cell (i := 2) rfl
  have z3 := hx6.cell (i := 3) rfl
  have z4 := hx6.cell (i := 4) rfl
  have z5 := hx6.cell (i := 5) rfl
  have z6 := hx6.cell (i := 6) rfl
  have f0 := hx6.frozen
  go_region_held3 (fun w' => w'.cell? ⟨g4, 0, none⟩ = some (.int .i64 0) ∧ w'.cell? ⟨g4, 1, none⟩ = some (.int .i64 0) ∧ w'.cell? ⟨g4, 2, none⟩ = some (.int .i64 0) ∧ w'.cell? ⟨g4, 3, none⟩ = some (.int .i64 0) ∧ w'.cell? ⟨g4, 4, none⟩ = some (.slice none 0 0) ∧ w'.cell? ⟨g4, 5, none⟩ = some (.slice none 0 0) ∧ w'.cell? ⟨g4, 6, none⟩ = some (.slice none 0 0)) (go_keep)
    ((first
      | (go_at_call 20; (with_reducible refine (numL_any _ _).mono ?_); rintro q w' ⟨rfl, hw'⟩; obtain rfl := hw'.symm)))
  go_wp2
  obtain ⟨hF, hG⟩ := set7 (b0 := .int .i64 0) (b1 := .int .i64 0) (b2 := .int .i64 0) (b3 := .int .i64 0) (b4 := .slice none 0 0) (b5 := .slice none 0 0) (b6 := .slice none 0 0) hx6
  replace hF := RowAt.drew hF
  replace hG := hG.drew
  obtain rfl : w.heap.size = g2 := EG.out
  refine bodyPost_ret (results_cell_1 (p := 2) (u := 3) rfl _ _ w.heap.size 36 _ (0, 0) _ (by rfl) hF Tryd.underlying36 rfl (by kernel_rfl)) rfl ?_
  exact ⟨rfl, ((But.of_below hB4 : But w.heap.size (fun _ => False) w w4).step hG (fun k hk e => by omega)).below (fun _ _ => id)⟩
end
end Go.Proofs.YtkpcmfgeanlcnaaDoor

namespace Go.Proofs.YtkpcmfgeanlcnaaDoor
open Go.RowKit Go.Deep

theorem Lies.since {w w' : World} {v : Value} {xs : List Value} {B : Nat} (h : Lies w v xs) (hb : Below B w w') (hB : w.heap.size ≤ B) : Lies w' v xs := h.below (hb.mono hB)
theorem bytes_of (s : List UInt8) (w : World) : ∃ cap w', (convert 9 24 (.string ⟨s.toArray⟩)).run Tryd.prog w = .ok (.slice (some ⟨w.heap.size, 0, none⟩) s.length cap) w' ∧ Below w.heap.size w w' ∧ w'.heap.size = w.heap.size + 1 ∧ s.length ≤ cap ∧ Byt w' w.heap.size 0 s := by
  have h := bytes_made ⟨s.toArray⟩ w
  have e : (⟨s.toArray⟩ : ByteArray).data.toList = s := by simp
  rw [e] at h
  exact h
section
variable (ps : List (List UInt8)) (hn : ps.length ≤ 9223372036854775807) (hl : ∀ p ∈ ps, p.length ≤ 9223372036854775807) (v : Value) (w : World) (hv : Lies w v (strV ps)) (hTab : Tab w) (hPow : Pow w) (h4 : 4 ≤ w.heap.size) (a : Addr) (hE : Early w a) (hT : ErrT w)
set_option maxHeartbeats 1000000 in
set_option maxRecDepth 100000 in
include hn hl hv hTab hPow h4 hE hT in
theorem readers_any : Calls Tryd.prog 7 #[v] w fun q w' => q = .returned (.bool true) ∧ Below w.heap.size w w' := by
  obtain ⟨ba, cp, rfl, hcap, hc⟩ := hv
  rw [strV_length] at hcap ⊢
  have KU := unmade_any w
  go_enter Tryd.func7, Tryd.ntmps7
  go_upto_region 2 with (first | (go_at_call 13; (with_reducible refine KU.mono ?_); rintro q w0 ⟨rfl, hb0⟩))
  have hs0 := hb0.size
  have KN := newReader_any w0
  go_upto_region 5 with (first | (go_at_call 14; (with_reducible refine KN.mono ?_); rintro q w1 ⟨xb, rb, rfl, n1, n2, n3, n4, n5⟩))
  have hlt1 := n2.lt
  have hMr : ∀ k, Mine rb (.slice none 0 0) (.slice none 0 0) k → k = rb := fun k x => by
    rcases x with h | h | h
    · exact h
    · cases h
    · cases h
  have hxr : xb ≠ rb := by
    obtain ⟨s, t, vN, vS, I, _⟩ := n2
    exact row_other n1 I.rd (by decide)
  have hrl : rb < w1.heap.size := hlt1.2 rb (.inl rfl)
  have hb1 := (Below.refl w1.heap.size w1).alloc (Nat.le_refl _) (.cells #[.pointer (some ⟨xb, 0, none⟩), .slice none 0 0, .bool false] 47)
  have hx1 : RowAt (w1.alloc (.cells #[.pointer (some ⟨xb, 0, none⟩), .slice none 0 0, .bool false] 47)) w1.heap.size [.pointer (some ⟨xb, 0, none⟩), .slice none 0 0, .bool false] 47 := RowAt.made w1 [.pointer (some ⟨xb, 0, none⟩), .slice none 0 0, .bool false] _
  have hs1 := n5.size
  have hs2 : w1.heap.size < (w1.alloc (.cells #[.pointer (some ⟨xb, 0, none⟩), .slice none 0 0, .bool false] 47)).heap.size := hx1.lt
  have D : Sd w0 (w1.alloc (.cells #[.pointer (some ⟨xb, 0, none⟩), .slice none 0 0, .bool false] 47)) w1.heap.size xb rb [] (.slice none 0 0) (Mine rb (.slice none 0 0) (.slice none 0 0)) :=
    ⟨hx1, RowAt.later n1 (S := fun _ => False) (.of_below hb1) (RowAt.lt n1) id, .live _ _ (n2.below hb1) (fun _ h => h), World.ownsRow_nil _ _ _ 1, fun k hk => by have := hMr k hk; exact ⟨by omega, by omega⟩, fun h => hxr (hMr _ h), fun h => by have := hMr _ h; omega, (fun g hg => by cases hg), by omega, n4, n3, n5.trans (hb1.mono hs1), by simp⟩
  go_upto_region 6 with (fail)
  generalize World.alloc w1 _ = w2 at D ⊢
  generalize w1.heap.size = sb at D ⊢
  have hTab0 := hTab.below hb0 (by omega)
  have hPow0 := hPow.belows hb0 h4
  have hE0 := hE.belows hb0
  have hT0 : ErrT w0 := hT.below hb0 (by omega)
  have h40 : 4 ≤ w0.heap.size := by omega
  clear KU KN n1 n2 n5 hlt1 hMr hxr hrl hb1 hx1 hs1 hs2 hTab hPow hE hT
  go_wp2_with (fail)
  go_loopw [6, 7] (fun vi _ wr => ∃ (c : Nat) (l : List UInt8) (vb : Value) (M : Nat → Prop), c ≤ ps.length ∧ vi = .int .i64 (c : Int) ∧ Sd w0 wr sb xb rb l vb M) (fun i _ _ => ps.length - (intOf i).toNat)
  case atStart => exact ⟨0, [], _, _, by omega, rfl, D⟩
  case round =>
    obtain ⟨c, l, vb, M, hcl, rfl, D⟩ := hrel
    have hsr := D.bel.size
    by_cases hlt : c < ps.length
    · obtain ⟨b, off, rfl, hcell0⟩ := hc c _ (strV_at hlt)
      have hcell : wr.cell? ⟨b, off + c, none⟩ = some (.string ⟨(ps.getD c []).toArray⟩) := ((D.bel.cell (p := ⟨b, off + c, none⟩) (by have := cell_lt hcell0; show b < _; have : b < w.heap.size := this; omega)).trans (hb0.cell (p := ⟨b, off + c, none⟩) (cell_lt hcell0))).trans hcell0
      have hsc : (ps.getD c []).length ≤ 9223372036854775807 := by
        rw [List.getD_eq_getElem?_getD, List.getElem?_eq_getElem hlt]
        exact hl _ (List.getElem_mem _)
      obtain ⟨s, es⟩ : ∃ s, ps.getD c [] = s := ⟨_, rfl⟩
      rw [es] at hcell hsc
      obtain ⟨cap, w3, hr3, hb3, hz3, hc3, hby⟩ := bytes_of s wr
      have KF := sfeed_any w0 w3 sb xb rb l s vb M (D.below hb3) wr.heap.size cap hc3 hsc hby (by omega) (fun h => by have := (D.mB _ h).2; omega) hTab0 hPow0 h40 a hE0 hT0
      clear es hcell0 hc hl hz3 hc3 hby
      go_wp2_with (first | (go_at_call 15; (with_reducible refine KF.mono ?_); rintro q w4 ⟨rfl, vb', M', D'⟩))
      go_roundw
      case rel => exact ⟨c + 1, _, _, _, by omega, by go_num, D'⟩
      case measure => simp [intOf]; omega
    · have KI := sfinish_any w0 wr sb xb rb l vb M D hTab0 hPow0 h40 a hE0 hT0
      clear hc hl D
      go_upto_region 13 with (first | (go_at_call 16; (with_reducible refine KI.mono ?_); rintro q w5 ⟨⟨s, bn, cn, bz, cz, bc, cc, rfl⟩, b', c', D5⟩))
      have D6 := D5.below ((Below.refl w5.heap.size w5).alloc (Nat.le_refl _) (.cells #[.int .i64 (s.k : Int), .int .i64 (s.n : Int), .int .i64 (s.i : Int), .int .i64 (s.c : Int), .slice bn s.names.length cn, .slice bz s.sizes.length cz, .slice bc s.col.length cc] 36))
      generalize World.alloc w5 _ = w6 at D6 ⊢
      clear KI D5
      have kc : (convert 24 24 (.slice (some ⟨w6.heap.size, 0, none⟩) 1 1)).run Tryd.prog (w6.alloc (.cells #[.int .u8 67] 5)) = .ok (.slice (some ⟨w6.heap.size, 0, none⟩) 1 1) (w6.alloc (.cells #[.int .u8 67] 5 (1, 2))) := Lib.run_convert_bytes_const (P := Tryd.prog) w6 24 5 #[.int .u8 67] 1 1 Tryd.underlying24 Tryd.underlying5
      have D7 := D6.below ((Below.refl w6.heap.size w6).alloc (Nat.le_refl _) (.cells #[.int .u8 67] 5 (1, 2)))
      have KF := sfeed_closed w0 _ sb xb b' _ c' D7 w6.heap.size 1 (by omega)
      go_upto_region 14 with (first | (go_at_call 15; (with_reducible refine KF.mono ?_); rintro q w8 ⟨rfl, hb8⟩))
      have D8 := D7.below hb8
      have KZ := sfinish_closed w0 _ sb xb b' _ c' D8
      clear KF D7 hb8
      go_upto_region 15 with (first | (go_at_call 16; (with_reducible refine KZ.mono ?_); rintro q w9 ⟨rfl, hb9⟩))
      have D9 := D8.below hb9
      have D10 := D9.below ((Below.refl w9.heap.size w9).alloc (Nat.le_refl _) (.cells #[.int .i64 0, .int .i64 0, .int .i64 0, .int .i64 0, .slice none 0 0, .slice none 0 0, .slice none 0 0] 36))
      generalize World.alloc w9 _ = w10 at D10 ⊢
      go_wp2
      go_ret
      exact ⟨rfl, hb0.trans (D10.bel.mono hs0)⟩
end
end Go.Proofs.YtkpcmfgeanlcnaaDoor

/-
  How the program reads a shard: piece by piece (readOn).
  How the program reads a shard: piece by piece (readOn).
  How the program reads a shard: a part is taken (Take).
  How the program reads a shard: the end (End).
-/
import Derived.Test.YtlghjjennhpjeaaGreatDoorPlD
import Derived.Deep.CutRange
namespace Go.Proofs.YtlghjjennhpjeaaGreatDoor
open Go.RowKit Go.Deep

/-- A Reading that has come to these bytes: what has been read of them, and what has come of the next piece. -/
structure StOk (s : St) (t L : List UInt8) : Prop where
  good : ∀ x, Good s (L ++ x)
  here : At L s.pl t
  bd : Bd s
  plb : PlB s
  short : s.nx ≤ 3 → t.length ≤ s.sz
  none : s.nx = 4 → t = []
theorem StOk.fit {s : St} {t L : List UInt8} (h : StOk s t L) (h3 : s.nx ≤ 3) : Fit s := by
  have hb := (h.good []).bounds
  refine ⟨h.bd, h3, fun h0 => ?_, fun h2 => (hb.2.2.2.2 h2).1⟩
  rcases hb.2.1 with q | q
  · exact absurd q h0
  · exact ⟨by omega, by omega, by omega, by omega⟩
theorem At.more_text {L t p : List UInt8} {a n : Nat} (h : At L a t) (hp : p = L.drop (a + t.length)) : At L a (t ++ p.take n) := by
  have h1 := h.1
  have hl : (p.take n).length ≤ L.length - (a + t.length) := by rw [hp]; simp; omega
  refine ⟨by rw [List.length_append]; omega, fun i hi => ?_⟩
  rw [List.length_append] at hi
  rcases Nat.lt_or_ge i t.length with q | q
  · rw [h.2 i q]
    simp only [bAt, List.getD_eq_getElem?_getD]
    rw [List.getElem?_append_left q]
  · simp only [bAt, List.getD_eq_getElem?_getD]
    rw [List.getElem?_append_right q, hp, List.getElem?_take]
    have : i - t.length < n := by rw [List.length_take] at hi; omega
    rw [if_pos this, List.getElem?_drop, show a + t.length + (i - t.length) = a + i by omega]
/-- The next piece. -/
theorem StOk.next {s s' : St} {t L : List UInt8} (h : StOk s t L) (h3 : s.nx ≤ 3) (hr : readP s t = .ok s') : StOk (moveP s' t) [] L ∧ meas (moveP s' t).nx (moveP s' t).ln (moveP s' t).col.length < meas s.nx s.ln s.col.length := by
  have hG := fun x => read_ok (h.good x) (by omega) (h.here.more x) (h.short h3) hr
  have ht : t.length = s.sz := (hG []).1
  have hGo := fun x => (hG x).2.1
  have hb := (hGo []).bounds
  have h1 : (moveP s' t).nx ≠ 0 := by
    show nextP s' ≠ 0
    unfold nextP
    split
    · omega
    · split
      · omega
      · split <;> omega
  have hP := h.plb.next h.bd.m h3 hr ht (fun q => by have := (h.good []).nx2 q; omega)
  have hat := h.here.1
  have hpl : (moveP s' t).pl = s.pl + t.length := by
    show s'.pl + t.length = _
    rw [(hG []).2.2.1]
  refine ⟨⟨hGo, ⟨by simp; omega, fun i hi => by simp at hi⟩, ?_, hP, fun _ => by simp, fun _ => rfl⟩, meas_lt (h.good []) h3 hr ht (hGo [])⟩
  rcases hb.2.1 with q | q
  · exact absurd q h1
  · have hcol : (moveP s' t).col.length ≤ (moveP s' t).ln := by
      rcases Nat.lt_or_ge (moveP s' t).nx 2 with q2 | q2
      · rw [hb.2.2.1 (by omega)]; simp
      · exact (hb.2.2.2.2 q2).2
    refine ⟨by omega, by omega, by omega, hcol, hb.1, ?_⟩
    obtain ⟨p0, p1, p2⟩ := hP
    rcases Nat.lt_or_ge (moveP s' t).nx 2 with q2 | q2
    · have := p1 (by omega); omega
    · have := p2 q2
      split at this <;> omega
/-- What readOn tells of all bytes up to now. -/
def TakeOut (B : Nat) (w : World) (rb : Nat) (vC vT : Value) (L : List UInt8) (q : Ending) (w' : World) : Prop :=
  But w.heap.size (Mine rb vC vT) w w' ∧
  ((∃ v d e, d ≤ 2 ∧ q = .returned v ∧ Chain w' d v e.1 e.2 ∧ parseE L = .error e ∧ (∃ r', RdAt w' rb r') ∧ (e.1 ≠ 4 → ∀ x, parseE (L ++ x) = .error e) ∧
      (e.1 = 4 → ∃ s t vN vS vC' vT', RI B w' rb s t vN vS vC' vT' ∧ StOk s t L ∧ L.length = s.pl + t.length ∧ ∀ k, k < w.heap.size → Mine rb vC' vT' k → Mine rb vC vT k)) ∨
   (q = .returned .nilIface ∧ ∃ s vN vS vC' vT', RI B w' rb s [] vN vS vC' vT' ∧ StOk s [] L ∧ s.nx = 4 ∧ L.length = s.pl ∧ parseE L = .ok s.shd ∧ ∀ k, k < w.heap.size → Mine rb vC' vT' k → Mine rb vC vT k))
def measW (rb : Nat) (w : World) : Nat := match w.cell? ⟨rb, 10, none⟩, w.cell? ⟨rb, 8, none⟩, w.cell? ⟨rb, 6, none⟩ with
  | some (.int _ nx), some (.int _ ln), some (.slice _ n _) => meas nx.toNat ln.toNat n
  | _, _, _ => 0
theorem measW_eq {B rb : Nat} {w : World} {s : St} {t : List UInt8} {vN vS vC vT : Value} (I : RI B w rb s t vN vS vC vT) : measW rb w = meas s.nx s.ln s.col.length := by
  obtain ⟨bc, cc, eC, _⟩ := I.oc.slice
  have c6 := RowAt.cell I.rd (i := 6) rfl
  have c8 := RowAt.cell I.rd (i := 8) rfl
  have c10 := RowAt.cell I.rd (i := 10) rfl
  simp only [St.rd] at c6 c8 c10
  unfold measW
  rw [c6, c8, c10, eC]
  simp
end Go.Proofs.YtlghjjennhpjeaaGreatDoor

namespace Go.Proofs.YtlghjjennhpjeaaGreatDoor
open Go.RowKit Go.Deep

theorem But.step {w w1 w2 : World} {S0 S1 : Nat → Prop} (h1 : But w.heap.size S0 w w1) (h2 : But w1.heap.size S1 w1 w2) (h : ∀ k, k < w.heap.size → S1 k → S0 k) : But w.heap.size S0 w w2 :=
  ⟨h2.os.trans h1.os, h2.tape.trans h1.tape, h2.output.trans h1.output, Nat.le_trans h1.size h2.size, fun k hk hs => (h2.block k (Nat.lt_of_lt_of_le hk h1.size) (fun x => hs (h k hk x))).trans (h1.block k hk hs)⟩
theorem RI.mine {B rb : Nat} {w : World} {s : St} {t : List UInt8} {vN vS vC vT : Value} (I : RI B w rb s t vN vS vC vT) (hr : B ≤ rb) : ∀ k, Mine rb vC vT k → B ≤ k := by
  intro k h
  rcases h with h | h | h
  · omega
  · exact (World.ownsRow.lt I.oc k h).1
  · exact (World.ownsRow.lt I.ot k h).1
theorem Tab.but {w w' : World} {B : Nat} {S : Nat → Prop} (h : Tab w) (hb : But B S w w') (hB : 3 < B) (hS : ¬ S 3) : Tab w' :=
  ⟨Nat.lt_of_lt_of_le h.1 hb.size, fun i hi => (hb.cell (p := ⟨3, i, none⟩) hB hS).trans (h.2 i hi)⟩
theorem Mine.fill {rb H k : Nat} {vC vT v' : Value} (hk : v'.ownBlock = vT.ownBlock ∨ ∃ g, v'.ownBlock = some g ∧ H ≤ g) (hlt : k < H) (h : Mine rb vC v' k) : Mine rb vC vT k := by
  rcases h with h | h | h
  · exact .inl h
  · exact .inr (.inl h)
  · rcases hk with e | ⟨g, e, hg⟩
    · exact .inr (.inr (e ▸ h))
    · rw [e] at h
      cases h
      omega
theorem Mine.col {rb H k : Nat} {vC vT v' : Value} (hk : v'.ownBlock = vC.ownBlock ∨ ∃ g, v'.ownBlock = some g ∧ H ≤ g) (hlt : k < H) (h : Mine rb v' vT k) : Mine rb vC vT k := by
  rcases h with h | h | h
  · exact .inl h
  · rcases hk with e | ⟨g, e, hg⟩
    · exact .inr (.inl (e ▸ h))
    · rw [e] at h
      cases h
      omega
  · exact .inr (.inr h)
theorem Pt.len {w : World} {M : Nat → Prop} {v : Value} {p : List UInt8} (h : Pt w M v p) : ∃ ba c, v = .slice ba p.length c := by
  rcases h with ⟨rfl, rfl⟩ | ⟨ad, c, rfl, _⟩
  · exact ⟨_, _, rfl⟩
  · exact ⟨_, _, rfl⟩

section
variable (B rb : Nat) (L : List UInt8) (s0 : St) (t0 : List UInt8) (vN0 vS0 vC0 vT0 vp : Value) (w : World) (I0 : RI B w rb s0 t0 vN0 vS0 vC0 vT0) (hS0 : StOk s0 t0 L) (hP0 : Pt w (Mine rb vC0 vT0) vp (L.drop (s0.pl + t0.length))) (hL : L.length ≤ 4611686018427387904) (hTab : Tab w) (hPow : Pow w) (hB16 : 5 ≤ B) (hrB : B ≤ rb)
set_option maxHeartbeats 2000000 in
set_option maxRecDepth 100000 in
include I0 hS0 hP0 hL hTab hPow hB16 hrB in
theorem readOn_any : Calls Tryz.prog 66 #[.pointer (some ⟨rb, 0, none⟩), vp] w fun q w' => TakeOut B w rb vC0 vT0 L q w' := by
  go_enter Tryz.func66, Tryz.ntmps66
  go_wp2
  go_loopw [1] (fun v wr => ∃ (s : St) (t p : List UInt8) (vN vS vC vT : Value), RI B wr rb s t vN vS vC vT ∧ StOk s t L ∧ Hid (L.drop (s.pl + t.length) = p) ∧ Pt wr (Mine rb vC vT) v p ∧ But w.heap.size (Mine rb vC0 vT0) w wr ∧ (∀ k, k < w.heap.size → Mine rb vC vT k → Mine rb vC0 vT0 k)) (fun _ wr => measW rb wr)
  case atStart => exact ⟨s0, t0, _, vN0, vS0, vC0, vT0, I0, hS0, rfl, hP0, But.refl _ _ _, fun _ _ h => h⟩
  case round =>
    obtain ⟨s, t, p, vN, vS, vC, vT, I, hS, EP, hP, hBw, hM⟩ := hrel
    obtain ⟨ba, cp, ev⟩ := hP.len
    subst ev
    have c10 := RowAt.cell I.rd (i := 10) rfl
    simp only [St.rd] at c10
    have hbd := hS.bd
    have hT1 : Tab wr := hTab.but hBw (by have := I0.size; omega) (fun h => by have := I0.mine hrB 3 h; omega)
    have hP1 : Pow wr := hPow.but hBw (fun k hk => ⟨by have := I0.size; omega, fun h => by have := I0.mine hrB k h; omega⟩)
    have h161 : 5 ≤ wr.heap.size := by have := I.size; omega
    by_cases q4 : s.nx = 4
    · obtain rfl := hS.none q4
      have hE := fun x => read_end (hS.good x) q4
      have hpl0 : p.length = L.length - s.pl := by rw [← EP.out, List.length_drop]; rfl
      have hat : s.pl ≤ L.length := by have := hS.here.1; simpa using this
      have c11 := RowAt.cell I.rd (i := 11) rfl
      simp only [St.rd] at c11
      rw [q4] at c10
      obtain ⟨pl, epl⟩ : ∃ pl, s.pl = pl := ⟨_, rfl⟩
      rw [epl] at c11
      by_cases q0 : 0 < p.length
      · have HE : Hid (∀ x, parseE (L ++ x) = .error (9, pl)) := fun x => by
          rw [hE x, if_neg (by rw [List.length_append]; omega), epl]
        clear hE hP EP hpl0 hat epl hS
        go_wp2_with (first | (go_at_call 49; refine (at_any _ _ 9 pl (by rfl) (by rfl) _).mono ?_; rintro q w2 ⟨v, rfl, g1, g2⟩) | (go_at_call 24; refine (within_any _ 0 _ 9 pl _ (by exact g1)).mono ?_; rintro q w3 ⟨v3, rfl, g3, g4⟩))
        go_ret
        have hb3 : Below wr.heap.size wr w3 := g2.trans (g4.mono g2.size)
        refine ⟨hBw.trans (.of_below (hb3.mono hBw.size)), .inl ⟨_, 1, (9, pl), by omega, rfl, g3, ?_, ⟨_, (I.below hb3).rd⟩, fun _ => HE.out, fun h => by cases h⟩⟩
        have := HE.out []
        rwa [List.append_nil] at this
      · have hLp : L.length = pl := by omega
        have HE : Hid (parseE L = .ok s.shd) := by
          have := hE []
          rw [List.append_nil, if_pos (by omega)] at this
          exact this
        have HL : Hid (L.length = s.pl) := by show _ = _; rw [epl]; exact hLp
        clear hE hP EP hpl0 hat epl hLp
        go_wp2
        go_ret
        exact ⟨hBw, .inr ⟨rfl, s, vN, vS, vC, vT, I, hS, q4, HL.out, HE.out, hM⟩⟩
    · have h3 : s.nx ≤ 3 := by have := hbd.nx; omega
      have q4' : ((s.nx : Int) == 4) = false := by simp; omega
      have q4'' : ((s.nx : Int) != 4) = true := by simp; omega
      obtain ⟨t', et⟩ : ∃ t', t ++ p.take (s.sz - t.length) = t' := ⟨_, rfl⟩
      have hpl0 : p.length = L.length - (s.pl + t.length) := by rw [← EP.out, List.length_drop]
      have hat := hS.here.1
      have hA' : At L s.pl t' := by rw [← et]; exact hS.here.more_text EP.out.symm
      have hsh := hS.short h3
      have hlt : t'.length ≤ s.sz := by rw [← et, List.length_append, List.length_take]; omega
      have hle4 : t'.length < s.sz → L.length = s.pl + t'.length := by
        intro h
        rw [← et, List.length_append, List.length_take] at h ⊢
        omega
      have hrest : p.drop (s.sz - t.length) = L.drop (s.pl + t'.length) := by
        rw [← EP.out, List.drop_drop]
        rcases Nat.lt_or_ge t'.length s.sz with q | q
        · have := hle4 q
          rw [← et, List.length_append, List.length_take] at q
          rw [List.drop_of_length_le (by omega), List.drop_of_length_le (by omega)]
        · rw [show s.pl + t.length + (s.sz - t.length) = s.pl + t'.length by omega]
      have hS' : StOk s t' L := ⟨hS.good, hA', hbd, hS.plb, fun _ => hlt, fun h => absurd h q4⟩
      have KF := fill_any B rb s t p vN vS vC vT _ hbd h3 hsh (by omega) wr I hP
      unfold FillPost at KF
      rw [et, hrest] at KF
      obtain ⟨p', ep'⟩ : ∃ p', L.drop (s.pl + t'.length) = p' := ⟨_, rfl⟩
      rw [ep'] at KF
      have EP' : Hid (L.drop (s.pl + t'.length) = p') := ep'
      have HRE : Hid (∀ e, readP s t' = .error e → parseE L = .error e ∧ (e.1 ≠ 4 → ∀ x, parseE (L ++ x) = .error e) ∧ (e.1 = 4 → L.length = s.pl + t'.length)) := fun e he => by
        have h4 : e.1 = 4 → L.length = s.pl + t'.length := fun h => hle4 (read_short he h)
        refine ⟨?_, fun hne x => read_err (hS'.good x) q4 (hA'.more x) hlt he (fun h => absurd h hne), h4⟩
        have := read_err (hS'.good []) q4 (hA'.more []) hlt he (fun h => by rw [List.append_nil]; exact h4 h)
        rwa [List.append_nil] at this
      have HM : Hid (∀ k, k < w.heap.size → Mine rb vC vT k → Mine rb vC0 vT0 k) := hM
      have hF := hS'.fit h3
      cases hR : readP s t' with
      | error e =>
        obtain ⟨z1, z2, z3⟩ := HRE.out e hR
        clear et hrest hle4 hM hP HRE hat ep' hpl0 hsh
        go_wp2_with (first | (go_at_call 88; with_reducible refine KF.mono ?_; rintro q w1 ⟨v1, vT1, rfl, g1, g2, g3, g4⟩; have hT2 : Tab w1 := hT1.but g3 (by omega) (fun h => by have := I.mine hrB 3 h; omega); have hP2 : Pow w1 := hP1.but g3 (fun k hk => ⟨by omega, fun h => by have := I.mine hrB k h; omega⟩); have K := rread_any B rb s t' vN vS vC vT1 hF hlt w1 g2 hT2 hP2 (by have := g3.size; omega); unfold ReadOut at K; rw [hR] at K; simp only at K; clear hR) | (go_at_call 89; with_reducible refine K.mono ?_; rintro q w2 ⟨k1, ⟨v2, d, hd, rfl, k2⟩, k3, k4⟩; obtain ⟨ty, x, rfl⟩ := k2.iface))
        go_ret
        have hM1 : ∀ k, k < w.heap.size → Mine rb vC vT1 k → Mine rb vC0 vT0 k := fun k hk hm => HM.out k hk (Mine.fill g4 (Nat.lt_of_lt_of_le hk hBw.size) hm)
        have hB2 : But w.heap.size (Mine rb vC0 vT0) w w2 := (hBw.step g3 HM.out).step k1 hM1
        exact ⟨hB2, .inl ⟨_, d, e, hd, rfl, k2, z1, k3, z2, fun h => ⟨s, t', vN, vS, vC, vT1, k4 h, hS', z3 h, hM1⟩⟩⟩
      | ok s' =>
        obtain ⟨hS2, hms⟩ := hS'.next h3 hR
        obtain ⟨e1, e2, _, _, _⟩ := read_nx hR
        have hb2 : Bd s' := ⟨hS2.bd.m, hS2.bd.c, hS2.bd.ln, hS2.bd.col, by omega, by rw [e2]; exact hbd.pl⟩
        have ht4 : t'.length ≤ 400000 := Nat.le_trans hlt (St.sz_le hbd)
        have HMS : Hid _ := hms
        clear et hrest hle4 hM hP HRE hat hms ep' hpl0 hsh
        go_wp2_with (first | (go_at_call 88; with_reducible refine KF.mono ?_; rintro q w1 ⟨v1, vT1, rfl, g1, g2, g3, g4⟩; have hT2 : Tab w1 := hT1.but g3 (by omega) (fun h => by have := I.mine hrB 3 h; omega); have hP2 : Pow w1 := hP1.but g3 (fun k hk => ⟨by omega, fun h => by have := I.mine hrB k h; omega⟩); have K := rread_any B rb s t' vN vS vC vT1 hF hlt w1 g2 hT2 hP2 (by have := g3.size; omega); unfold ReadOut at K; rw [hR] at K; simp only at K; clear hR) | (go_at_call 89; with_reducible refine K.mono ?_; rintro q w2 ⟨k1, rfl, vN2, vS2, vC2, k2, k3⟩; have KM := moveOn_any B rb s' t' vN2 vS2 vC2 vT1 hb2 ht4 w2 k2; unfold MovePost at KM) | (go_at_call 90; with_reducible refine KM.mono ?_; rintro q w3 ⟨rfl, vT3, m1, m2, m3⟩))
        have hM1 : ∀ k, k < w.heap.size → Mine rb vC vT1 k → Mine rb vC0 vT0 k := fun k hk hm => HM.out k hk (Mine.fill g4 (Nat.lt_of_lt_of_le hk hBw.size) hm)
        have hP3 : Pt w2 (Mine rb vC2 vT1) v1 p' := g1.later k1 (fun _ h => h) (fun k hk hm => Mine.col k3 hk hm)
        have hP4 : Pt w3 (Mine rb vC2 vT3) v1 p' := hP3.later m2 (fun _ h => .inl h) (fun k _ hm => by
          rcases hm with h | h | h
          · exact .inl h
          · exact .inr (.inl h)
          · exact .inr (.inr (m3 ▸ h)))
        have hB3 : But w.heap.size (Mine rb vC0 vT0) w w3 := ((hBw.step g3 HM.out).step k1 hM1).step m2 (fun k _ h => .inl h)
        refine ⟨⟨moveP s' t', [], p', vN2, vS2, vC2, vT3, m1, hS2, ?_, hP4, hB3, fun k hk hm => ?_⟩, ?_⟩
        · show _ = _
          rw [← EP'.out, (move_nx s' t').2.2.2, e2]; rfl
        · refine hM1 k hk (Mine.col k3 (Nat.lt_of_lt_of_le hk (Nat.le_trans hBw.size g3.size)) ?_)
          rcases hm with h | h | h
          · exact .inl h
          · exact .inr (.inl h)
          · exact .inr (.inr (m3 ▸ h))
        · rw [measW_eq m1, measW_eq I]
          exact HMS.out
end
end Go.Proofs.YtlghjjennhpjeaaGreatDoor

namespace Go.Proofs.YtlghjjennhpjeaaGreatDoor
open Go.RowKit Go.Deep

theorem StOk.more {s : St} {t L : List UInt8} (h : StOk s t L) (p : List UInt8) : StOk s t (L ++ p) :=
  ⟨fun x => by rw [List.append_assoc]; exact h.good (p ++ x), h.here.more p, h.bd, h.plb, h.short, h.none⟩
/-- A Reading that keeps nothing but a fault. -/
def deadRd (v : Value) : Rd := ⟨0, 0, 0, 0, .slice none 0 0, .slice none 0 0, .slice none 0 0, 0, 0, 0, 0, 0, .slice none 0 0, v⟩
/-- A Reading that goes on. -/
def Live (B : Nat) (w : World) (rb : Nat) (l : List UInt8) (vC vT : Value) : Prop := ∃ s t vN vS, RI B w rb s t vN vS vC vT ∧ StOk s t l ∧ l.length = s.pl + t.length
/-- One that has found what stays wrong. -/
def Dead (w : World) (rb : Nat) (l : List UInt8) : Prop := ∃ v d e, d ≤ 2 ∧ RdAt w rb (deadRd v) ∧ Chain w d v e.1 e.2 ∧ e.1 ≠ 4 ∧ ∀ x, parseE (l ++ x) = .error e
def TakePost (B : Nat) (w : World) (rb : Nat) (vC vT : Value) (L : List UInt8) (q : Ending) (w' : World) : Prop :=
  But w.heap.size (Mine rb vC vT) w w' ∧
  ((∃ v d e, d ≤ 2 ∧ q = .returned v ∧ Chain w' d v e.1 e.2 ∧ parseE L = .error e ∧ (e.1 ≠ 4 → Dead w' rb L) ∧ (e.1 = 4 → ∃ vC' vT', Live B w' rb L vC' vT' ∧ ∀ k, k < w.heap.size → Mine rb vC' vT' k → Mine rb vC vT k)) ∨
   (q = .returned .nilIface ∧ ∃ s vN vS vC' vT', RI B w' rb s [] vN vS vC' vT' ∧ StOk s [] L ∧ s.nx = 4 ∧ L.length = s.pl ∧ parseE L = .ok s.shd ∧ ∀ k, k < w.heap.size → Mine rb vC' vT' k → Mine rb vC vT k))
theorem Early.but {w w' : World} {a : Addr} {B : Nat} {S : Nat → Prop} (h : Early w a) (hb : But B S w w') (hB : 0 < B) (hS : ¬ S 0) : Early w' a := (hb.cell (p := ⟨0, 0, none⟩) hB hS).trans h
theorem row_ne {w : World} {rb b : Nat} {r : Rd} {cs : List Value} {ty : TypeId} (hr : RdAt w rb r) (h : RowAt w b cs ty) (hty : ty ≠ 102) : b ≠ rb := by
  rintro rfl
  have h2 : w.heap[b]? = some (.cells r.cells.toArray 102 (0, 0)) := hr
  have h3 : w.heap[b]? = some (.cells cs.toArray ty (0, 0)) := h
  rw [h2] at h3
  injection h3 with h3
  injection h3 with _ h4
  exact hty h4.symm
theorem Chain.turn {w w' : World} {rb : Nat} {r : Rd} (hr : RdAt w rb r) (hb : But w.heap.size (· = rb) w w') : ∀ {d : Nat} {v : Value} {e p : Nat}, Chain w d v e p → Chain w' d v e p
  | 0, _, _, _, ⟨b, e1, h1⟩ => ⟨b, e1, h1.later hb h1.lt (row_ne hr h1 (by decide))⟩
  | _ + 1, _, _, _, ⟨b, s, c, e1, h1, h2⟩ => ⟨b, s, c, e1, h1.later hb h1.lt (row_ne hr h1 (by decide)), Chain.turn hr hb h2⟩
section
variable (B rb : Nat) (l p : List UInt8) (vC vT vp : Value) (w : World) (hL : Live B w rb l vC vT) (hP : Pt w (Mine rb vC vT) vp p) (hlen : l.length + p.length ≤ 4611686018427387904) (hTab : Tab w) (hPow : Pow w) (hB16 : 5 ≤ B) (hrB : B ≤ rb) (a : Addr) (hE : Early w a)
set_option maxHeartbeats 2000000 in
set_option maxRecDepth 100000 in
include hL hP hlen hTab hPow hB16 hrB hE in
theorem take_live : Calls Tryz.prog 42 #[.pointer (some ⟨rb, 0, none⟩), vp] w fun q w' => TakePost B w rb vC vT (l ++ p) q w' := by
  obtain ⟨s, t, vN, vS, I, hS, hl⟩ := hL
  have KR := readOn_any B rb (l ++ p) s t vN vS vC vT vp w I (hS.more p) (by rw [← hl, List.drop_left]; exact hP) (by rw [List.length_append]; exact hlen) hTab hPow hB16 hrB
  unfold TakeOut at KR
  have c13 := RowAt.cell I.rd (i := 13) rfl
  simp only [St.rd] at c13
  have hsz := I.size
  have hmine := I.mine hrB
  unfold TakePost
  cases hpe : parseE (l ++ p) with
  | error e =>
    have K : Calls Tryz.prog 66 #[.pointer (some ⟨rb, 0, none⟩), vp] w fun q w' => But w.heap.size (Mine rb vC vT) w w' ∧ ∃ v d, d ≤ 2 ∧ q = .returned v ∧ Chain w' d v e.1 e.2 ∧ (∃ r', RdAt w' rb r') ∧ (e.1 ≠ 4 → ∀ x, parseE (l ++ p ++ x) = .error e) ∧
        (e.1 = 4 → ∃ vC' vT', Live B w' rb (l ++ p) vC' vT' ∧ ∀ k, k < w.heap.size → Mine rb vC' vT' k → Mine rb vC vT k) := by
      refine KR.mono ?_
      rintro q w' ⟨h1, h2⟩
      refine ⟨h1, ?_⟩
      rcases h2 with ⟨v, d, e', k1, k2, k3, k4, k5, k6, k7⟩ | ⟨_, s', _, _, _, _, _, _, _, _, k4, _⟩
      · rw [hpe] at k4
        cases k4
        refine ⟨v, d, k1, k2, k3, k5, k6, fun h => ?_⟩
        obtain ⟨s', t', vN', vS', vC', vT', m1, m2, m3, m4⟩ := k7 h
        exact ⟨vC', vT', ⟨s', t', vN', vS', m1, m2, m3⟩, m4⟩
      · rw [hpe] at k4
        cases k4
    have hearly : ∀ w', But w.heap.size (Mine rb vC vT) w w' → Early w' a := fun w' h => hE.but h (by omega) (fun x => by have := hmine 0 x; omega)
    by_cases q4 : e.1 = 4
    · have HQ : Hid (e.1 = 4) := q4
      clear KR hpe hmine hP hTab hPow hS
      go_enter Tryz.func42, Tryz.ntmps42
      go_upto_region 4 with (first | (go_at_call 66; with_reducible refine K.mono ?_; rintro q w1 ⟨g1, v, d, hd, rfl, g2, g3, g4, g5⟩))
      have hE1 := hearly w1 g1
      have KI := Is_chain d hd v a e.1 e.2 w1 g2 hE1
      rw [decide_eq_true q4] at KI
      obtain ⟨ty, x, rfl⟩ := g2.iface
      have c1 : w1.cell? ⟨0, 0, none⟩ = _ := hE1
      go_wp2_with (first | (go_at_call 43; with_reducible refine KI.mono ?_; rintro q w2 ⟨rfl, hw2⟩; obtain rfl := hw2.symm))
      go_ret
      exact ⟨g1, .inl ⟨_, d, e, hd, rfl, g2, rfl, fun h => absurd q4 h, fun _ => g5 q4⟩⟩
    · clear KR hpe hmine hP hTab hPow hS
      go_enter Tryz.func42, Tryz.ntmps42
      go_upto_region 4 with (first | (go_at_call 66; with_reducible refine K.mono ?_; rintro q w1 ⟨g1, v, d, hd, rfl, g2, g3, g4, g5⟩))
      have hE1 := hearly w1 g1
      have KI := Is_chain d hd v a e.1 e.2 w1 g2 hE1
      rw [decide_eq_false q4] at KI
      obtain ⟨ty, x, rfl⟩ := g2.iface
      have ce : w1.cell? ⟨0, 0, none⟩ = _ := hE1
      clear c13
      obtain ⟨r', hr⟩ := g3
      have c0 := RowAt.cell hr (i := 0) rfl
      have c1 := RowAt.cell hr (i := 1) rfl
      have c2 := RowAt.cell hr (i := 2) rfl
      have c3 := RowAt.cell hr (i := 3) rfl
      have c4 := RowAt.cell hr (i := 4) rfl
      have c5 := RowAt.cell hr (i := 5) rfl
      have c6 := RowAt.cell hr (i := 6) rfl
      have c7 := RowAt.cell hr (i := 7) rfl
      have c8 := RowAt.cell hr (i := 8) rfl
      have c9 := RowAt.cell hr (i := 9) rfl
      have c10 := RowAt.cell hr (i := 10) rfl
      have c11 := RowAt.cell hr (i := 11) rfl
      have c12 := RowAt.cell hr (i := 12) rfl
      have c13 := RowAt.cell hr (i := 13) rfl
      have f0 := RowAt.frozen hr
      have HR : RdAt _ rb (deadRd (.iface ty x)) := (((((((((((((RowAt.set hr 0 (.int .i64 0)).set 1 (.int .i64 0)).set 2 (.int .i64 0)).set 3 (.int .i64 0)).set 4 (.slice none 0 0)).set 5 (.slice none 0 0)).set 6 (.slice none 0 0)).set 7 (.int .i64 0)).set 8 (.int .i64 0)).set 9 (.int .i64 0)).set 10 (.int .i64 0)).set 11 (.int .i64 0)).set 12 (.slice none 0 0)).set 13 (.iface ty x)
      have hB1 : But w1.heap.size (· = rb) w1 _ := ((((((((((((((But.refl w1.heap.size (· = rb) w1).setCell (p := ⟨rb, 0, none⟩) (.inr rfl) (.int .i64 0)).setCell (p := ⟨rb, 1, none⟩) (.inr rfl) (.int .i64 0)).setCell (p := ⟨rb, 2, none⟩) (.inr rfl) (.int .i64 0)).setCell (p := ⟨rb, 3, none⟩) (.inr rfl) (.int .i64 0)).setCell (p := ⟨rb, 4, none⟩) (.inr rfl) (.slice none 0 0)).setCell (p := ⟨rb, 5, none⟩) (.inr rfl) (.slice none 0 0)).setCell (p := ⟨rb, 6, none⟩) (.inr rfl) (.slice none 0 0)).setCell (p := ⟨rb, 7, none⟩) (.inr rfl) (.int .i64 0)).setCell (p := ⟨rb, 8, none⟩) (.inr rfl) (.int .i64 0)).setCell (p := ⟨rb, 9, none⟩) (.inr rfl) (.int .i64 0)).setCell (p := ⟨rb, 10, none⟩) (.inr rfl) (.int .i64 0)).setCell (p := ⟨rb, 11, none⟩) (.inr rfl) (.int .i64 0)).setCell (p := ⟨rb, 12, none⟩) (.inr rfl) (.slice none 0 0)).setCell (p := ⟨rb, 13, none⟩) (.inr rfl) (.iface ty x)
      have hC1 := g2.turn hr hB1
      go_wp2_with (first | (go_at_call 43; with_reducible refine KI.mono ?_; rintro q w2 ⟨rfl, hw2⟩; obtain rfl := hw2.symm))
      go_ret
      exact ⟨g1.step hB1 (fun k _ h => .inl h), .inl ⟨_, d, e, hd, rfl, hC1, rfl, fun _ => ⟨_, d, e, hd, HR, hC1, q4, g4 q4⟩, fun h => absurd h q4⟩⟩
  | ok sh =>
    have K : Calls Tryz.prog 66 #[.pointer (some ⟨rb, 0, none⟩), vp] w fun q w' => But w.heap.size (Mine rb vC vT) w w' ∧ q = .returned .nilIface ∧ ∃ s vN vS vC' vT', RI B w' rb s [] vN vS vC' vT' ∧ StOk s [] (l ++ p) ∧ s.nx = 4 ∧ (l ++ p).length = s.pl ∧ Except.ok sh = (Except.ok s.shd : Except (Nat × Nat) Shd) ∧ ∀ k, k < w.heap.size → Mine rb vC' vT' k → Mine rb vC vT k := by
      refine KR.mono ?_
      rintro q w' ⟨h1, h2⟩
      refine ⟨h1, ?_⟩
      rcases h2 with ⟨v, d, e', k1, k2, k3, k4, k5, k6, k7⟩ | ⟨k0, s', vN', vS', vC', vT', m1, m2, m3, m4, m5, m6⟩
      · rw [hpe] at k4
        cases k4
      · rw [hpe] at m5
        exact ⟨k0, s', vN', vS', vC', vT', m1, m2, m3, m4, m5, m6⟩
    clear KR hpe hmine hP hTab hPow hS
    go_enter Tryz.func42, Tryz.ntmps42
    go_wp2_with (first | (go_at_call 66; with_reducible refine K.mono ?_; rintro q w1 ⟨g1, rfl, g2⟩))
    go_ret
    exact ⟨g1, .inr ⟨rfl, g2⟩⟩
set_option maxHeartbeats 2000000 in
set_option maxRecDepth 100000 in
theorem take_dead (hD : Dead w rb l) : Calls Tryz.prog 42 #[.pointer (some ⟨rb, 0, none⟩), vp] w fun q w' => w' = w ∧ ∃ v d e, d ≤ 2 ∧ q = .returned v ∧ Chain w d v e.1 e.2 ∧ e.1 ≠ 4 ∧ ∀ x, parseE (l ++ x) = .error e := by
  obtain ⟨v, d, e, hd, hR, hC, h4, hE⟩ := hD
  have c13 := RowAt.cell hR (i := 13) rfl
  obtain ⟨ty, x, rfl⟩ := hC.iface
  simp only [deadRd] at c13
  go_enter Tryz.func42, Tryz.ntmps42
  go_wp2
  go_ret
  exact ⟨rfl, _, d, e, hd, rfl, hC, h4, hE⟩
end
end Go.Proofs.YtlghjjennhpjeaaGreatDoor

namespace Go.Proofs.YtlghjjennhpjeaaGreatDoor
open Go.RowKit Go.Deep

/-- What a Reading tells at its end. -/
def EndPost (B : Nat) (w : World) (l : List UInt8) (S : Nat → Prop) (q : Ending) (w' : World) : Prop :=
  But w.heap.size S w w' ∧ match parseE l with
  | .error e => ∃ v d, d ≤ 2 ∧ q = .returned (.tuple #[zeroShard, v]) ∧ Chain w' d v e.1 e.2
  | .ok s => ∃ vN vS vC, q = .returned (.tuple #[.agg (shardL s.k s.n s.i s.c vN vS vC).toArray, .nilIface]) ∧
      w'.ownsRow B 9 1 vN s.names.length (strsV s.names) ∧ w'.ownsRow B 3 1 vS s.sizes.length (natV s.sizes) ∧ w'.ownsRow B 5 1 vC s.col.length (u8V s.col)
theorem results_cell_1 {P : Program} {fn : Func} {p u : Tmp} {ty : TypeId} (h : fn.results = #[.cell p ty, .tmp u]) (tmps : Array Value) (w : World) (g : Nat) (et : TypeId) (cs : Array Value) (fr : Nat × Nat) (d : TypeDesc)
    (hp : tmps.getD p undef = .pointer (some ⟨g, 0, none⟩)) (hg : w.heap[g]? = some (.cells cs et fr))
    (hu : P.underlying ty = some d) (hd : (match d with | .struct _ | .array _ _ => true | _ => false) = true) (hi : (P.info? ty).map (·.size) = some cs.size) :
    (results fn tmps).run P w = .ok (.tuple #[.agg cs, tmps.getD u undef]) w := by
  have hp' : tmps[p]?.getD undef = .pointer (some ⟨g, 0, none⟩) := by simpa using hp
  simp [results, h, hp', asAddr, run_loadVar_row w g et ty cs fr d hg hu hd hi]
theorem Live.below {B : Nat} {w w' : World} {rb : Nat} {l : List UInt8} {vC vT : Value} (h : Live B w rb l vC vT) (hb : Below w.heap.size w w') : Live B w' rb l vC vT := by
  obtain ⟨s, t, vN, vS, I, hS, hl⟩ := h
  exact ⟨s, t, vN, vS, I.below hb, hS, hl⟩
theorem Live.lt {B : Nat} {w : World} {rb : Nat} {l : List UInt8} {vC vT : Value} (h : Live B w rb l vC vT) : B ≤ w.heap.size ∧ ∀ k, Mine rb vC vT k → k < w.heap.size := by
  obtain ⟨s, t, vN, vS, I, hS, hl⟩ := h
  refine ⟨I.size, fun k hk => ?_⟩
  rcases hk with h | h | h
  · rw [h]; exact RowAt.lt I.rd
  · exact (World.ownsRow.lt I.oc k h).2
  · exact (World.ownsRow.lt I.ot k h).2
theorem Pow.belows {w w' : World} (h : Pow w) (hb : Below w.heap.size w w') (h16 : 5 ≤ w.heap.size) : Pow w' := h.but (S := fun _ => False) (.of_below hb) (fun k hk => ⟨by omega, id⟩)
theorem Early.belows {w w' : World} {a : Addr} (h : Early w a) (hb : Below w.heap.size w w') : Early w' a := (hb.cell (p := ⟨0, 0, none⟩) (cell_lt h)).trans h
theorem row_other {w : World} {b b' : Nat} {cs cs' : List Value} {ty ty' : TypeId} (h : RowAt w b cs ty) (h' : RowAt w b' cs' ty') (hty : ty ≠ ty') : b ≠ b' := by
  rintro rfl
  have h2 : w.heap[b]? = some (.cells cs.toArray ty (0, 0)) := h
  have h3 : w.heap[b]? = some (.cells cs'.toArray ty' (0, 0)) := h'
  rw [h2] at h3
  injection h3 with h3
  injection h3 with _ h4
  exact hty h4
theorem Chain.other {w w' : World} {b0 : Nat} {cs : List Value} {ty : TypeId} (hr : RowAt w b0 cs ty) (t1 : ty ≠ 78) (t2 : ty ≠ 118) (hb : But w.heap.size (· = b0) w w') : ∀ {d : Nat} {v : Value} {e p : Nat}, Chain w d v e p → Chain w' d v e p
  | 0, _, _, _, ⟨b, e1, h1⟩ => ⟨b, e1, h1.later hb h1.lt (row_other h1 hr (fun e => t1 e.symm))⟩
  | _ + 1, _, _, _, ⟨b, s, c, e1, h1, h2⟩ => ⟨b, s, c, e1, h1.later hb h1.lt (row_other h1 hr (fun e => t2 e.symm)), Chain.other hr t1 t2 hb h2⟩
theorem owns_other {w w' : World} {B b0 e n : Nat} {cs : List Value} {ty : TypeId} {v : Value} {xs : List Value} (hr : RowAt w b0 cs ty) (hb : But w.heap.size (· = b0) w w') (h : w.ownsRow B e 1 v n xs) (he : e ≠ ty) : w'.ownsRow B e 1 v n xs :=
  owns_later h (fun g hg => hb.block g (h.lt g hg).2 (fun e1 => by
    obtain ⟨cur, hh⟩ := owns_kind h hg
    have h2 : w.heap[b0]? = some (.cells cs.toArray ty (0, 0)) := hr
    subst e1
    rw [hh] at h2
    injection h2 with h2
    injection h2 with _ h4
    exact he h4))
/-- Seven cells are laid anew. -/
theorem set7 {w : World} {b : Nat} {a0 a1 a2 a3 a4 a5 a6 b0 b1 b2 b3 b4 b5 b6 : Value} {ty : TypeId} (h : RowAt w b [a0, a1, a2, a3, a4, a5, a6] ty) :
    RowAt (((((((w.setCell ⟨b, 0, none⟩ b0).setCell ⟨b, 1, none⟩ b1).setCell ⟨b, 2, none⟩ b2).setCell ⟨b, 3, none⟩ b3).setCell ⟨b, 4, none⟩ b4).setCell ⟨b, 5, none⟩ b5).setCell ⟨b, 6, none⟩ b6) b [b0, b1, b2, b3, b4, b5, b6] ty ∧
    But w.heap.size (· = b) w (((((((w.setCell ⟨b, 0, none⟩ b0).setCell ⟨b, 1, none⟩ b1).setCell ⟨b, 2, none⟩ b2).setCell ⟨b, 3, none⟩ b3).setCell ⟨b, 4, none⟩ b4).setCell ⟨b, 5, none⟩ b5).setCell ⟨b, 6, none⟩ b6) :=
  ⟨((((((h.set 0 b0).set 1 b1).set 2 b2).set 3 b3).set 4 b4).set 5 b5).set 6 b6,
   (((((((But.refl w.heap.size (· = b) w).setCell (p := ⟨b, 0, none⟩) (.inr rfl) b0).setCell (p := ⟨b, 1, none⟩) (.inr rfl) b1).setCell (p := ⟨b, 2, none⟩) (.inr rfl) b2).setCell (p := ⟨b, 3, none⟩) (.inr rfl) b3).setCell (p := ⟨b, 4, none⟩) (.inr rfl) b4).setCell (p := ⟨b, 5, none⟩) (.inr rfl) b5).setCell (p := ⟨b, 6, none⟩) (.inr rfl) b6⟩
def zero7 : List Value := shardL 0 0 0 0 (.slice none 0 0) (.slice none 0 0) (.slice none 0 0)
section
variable (B rb : Nat) (l : List UInt8) (vC vT : Value) (w : World) (hlen : l.length ≤ 4611686018427387904) (hTab : Tab w) (hPow : Pow w) (hB16 : 5 ≤ B) (hrB : B ≤ rb) (a : Addr) (hE : Early w a)
set_option maxHeartbeats 2000000 in
set_option maxRecDepth 100000 in
include hlen hTab hPow hB16 hrB hE in
theorem end_live (hL : Live B w rb l vC vT) : Calls Tryz.prog 44 #[.pointer (some ⟨rb, 0, none⟩)] w fun q w' => EndPost B w l (Mine rb vC vT) q w' := by
  have hb0 := (Below.refl w.heap.size w).alloc (Nat.le_refl _) (.cells zero7.toArray 41)
  have hx0 : RowAt (w.alloc (.cells zero7.toArray 41)) w.heap.size zero7 41 := RowAt.made w _ _
  have hlt := hL.lt
  have h16 : 5 ≤ w.heap.size := by have := hlt.1; omega
  have hL0 := hL.below hb0
  have hT0 := hTab.below hb0 (by omega)
  have hP0 := hPow.belows hb0 h16
  have hE0 := hE.belows hb0
  have hne : ¬ Mine rb vC vT w.heap.size := fun h => by have := hlt.2 _ h; omega
  unfold zero7 shardL at hb0 hx0 hL0 hT0 hP0 hE0
  unfold EndPost
  have key : ∀ w0, Below w.heap.size w w0 → Live B w0 rb l vC vT → Tab w0 → Pow w0 → Early w0 a → Calls Tryz.prog 42 #[.pointer (some ⟨rb, 0, none⟩), .slice none 0 0] w0 fun q w' => TakePost B w0 rb vC vT l q w' := by
    intro w0 _ hL hT hP hE
    have KT := take_live B rb l [] vC vT (.slice none 0 0) w0 hL (.inl ⟨rfl, rfl⟩) (by simpa using hlen) hT hP hB16 hrB a hE
    rwa [List.append_nil] at KT
  cases hpe : parseE l with
  | error e =>
    have K : ∀ w0, Below w.heap.size w w0 → Live B w0 rb l vC vT → Tab w0 → Pow w0 → Early w0 a → Calls Tryz.prog 42 #[.pointer (some ⟨rb, 0, none⟩), .slice none 0 0] w0 fun q w' => But w0.heap.size (Mine rb vC vT) w0 w' ∧ ∃ v d, d ≤ 2 ∧ q = .returned v ∧ Chain w' d v e.1 e.2 := by
      intro w0 z1 z2 z3 z4 z5
      refine (key w0 z1 z2 z3 z4 z5).mono ?_
      rintro q w' ⟨h1, h2⟩
      refine ⟨h1, ?_⟩
      rcases h2 with ⟨v, d, e', k1, k2, k3, k4, _⟩ | ⟨_, s', _, _, _, _, _, _, _, _, k4, _⟩
      · rw [hpe] at k4
        cases k4
        exact ⟨v, d, k1, k2, k3⟩
      · rw [hpe] at k4
        cases k4
    clear key hpe hL hTab hPow hE
    go_enter Tryz.func44, Tryz.ntmps44
    go_upto_region 1 with (fail)
    generalize hw0 : w.alloc _ = w0 at hb0 hx0 hL0 hT0 hP0 hE0 ⊢
    clear hw0
    have K0 := K w0 hb0 hL0 hT0 hP0 hE0
    have hsz0 : w.heap.size < w0.heap.size := hx0.lt
    clear K
    go_wp2_with (first | (go_at_call 42; with_reducible refine K0.mono ?_; rintro q w1 ⟨g1, v, d, hd, rfl, g2⟩; obtain ⟨ty, x, rfl⟩ := g2.iface; have hx1 := hx0.later g1 hsz0 hne; have c0 := hx1.cell (i := 0) rfl; have c1 := hx1.cell (i := 1) rfl; have c2 := hx1.cell (i := 2) rfl; have c3 := hx1.cell (i := 3) rfl; have c4 := hx1.cell (i := 4) rfl; have c5 := hx1.cell (i := 5) rfl; have c6 := hx1.cell (i := 6) rfl; have f0 := hx1.frozen))
    obtain ⟨hF, hG⟩ := set7 (b0 := .int .i64 0) (b1 := .int .i64 0) (b2 := .int .i64 0) (b3 := .int .i64 0) (b4 := .slice none 0 0) (b5 := .slice none 0 0) (b6 := .slice none 0 0) hx1
    have hC := g2.other hx1 (by decide) (by decide) hG
    refine bodyPost_ret (results_cell_1 (p := 2) (u := 3) rfl _ _ w.heap.size 41 _ (0, 0) _ (by rfl) hF Tryz.underlying41 rfl (by kernel_rfl)) rfl ?_
    exact ⟨((But.of_below hb0).step (g1.mono (Nat.le_refl _) (fun _ x => x)) (fun _ _ x => x)).step hG (fun k hk e => by omega), _, d, hd, rfl, hC⟩
  | ok sh =>
    have K : ∀ w0, Below w.heap.size w w0 → Live B w0 rb l vC vT → Tab w0 → Pow w0 → Early w0 a → Calls Tryz.prog 42 #[.pointer (some ⟨rb, 0, none⟩), .slice none 0 0] w0 fun q w' => But w0.heap.size (Mine rb vC vT) w0 w' ∧ q = .returned .nilIface ∧ ∃ s vN vS vC' vT', RI B w' rb s [] vN vS vC' vT' ∧ sh = s.shd := by
      intro w0 z1 z2 z3 z4 z5
      refine (key w0 z1 z2 z3 z4 z5).mono ?_
      rintro q w' ⟨h1, h2⟩
      refine ⟨h1, ?_⟩
      rcases h2 with ⟨v, d, e', k1, k2, k3, k4, _⟩ | ⟨k0, s', vN', vS', vC', vT', m1, m2, m3, m4, m5, m6⟩
      · rw [hpe] at k4
        cases k4
      · rw [hpe] at m5
        cases m5
        exact ⟨k0, s', vN', vS', vC', vT', m1, rfl⟩
    clear key hpe hL hTab hPow hE
    go_enter Tryz.func44, Tryz.ntmps44
    go_upto_region 1 with (fail)
    generalize hw0 : w.alloc _ = w0 at hb0 hx0 hL0 hT0 hP0 hE0 ⊢
    clear hw0
    have K0 := K w0 hb0 hL0 hT0 hP0 hE0
    have hsz0 : w.heap.size < w0.heap.size := hx0.lt
    clear K
    go_upto_region 4 with (first | (go_at_call 42; with_reducible refine K0.mono ?_; rintro q w1 ⟨g1, rfl, s, vN, vS, vC', vT', I, rfl⟩))
    have hx1 := hx0.later g1 hsz0 hne
    have c0 := hx1.cell (i := 0) rfl
    have c1 := hx1.cell (i := 1) rfl
    have c2 := hx1.cell (i := 2) rfl
    have c3 := hx1.cell (i := 3) rfl
    have c4 := hx1.cell (i := 4) rfl
    have c5 := hx1.cell (i := 5) rfl
    have c6 := hx1.cell (i := 6) rfl
    have f0 := hx1.frozen
    obtain ⟨bn, cn, rfl⟩ := owns_slice I.on
    obtain ⟨bz, cz, rfl⟩ := owns_slice I.os
    obtain ⟨bc, cc, eC, _⟩ := I.oc.slice
    subst eC
    have d0 := RowAt.cell I.rd (i := 0) rfl
    have d1 := RowAt.cell I.rd (i := 1) rfl
    have d2 := RowAt.cell I.rd (i := 2) rfl
    have d3 := RowAt.cell I.rd (i := 3) rfl
    have d4 := RowAt.cell I.rd (i := 4) rfl
    have d5 := RowAt.cell I.rd (i := 5) rfl
    have d6 := RowAt.cell I.rd (i := 6) rfl
    simp only [St.rd] at d0 d1 d2 d3 d4 d5 d6
    go_wp2
    obtain ⟨hF, hG⟩ := set7 (b0 := .int .i64 (s.k : Int)) (b1 := .int .i64 (s.n : Int)) (b2 := .int .i64 (s.i : Int)) (b3 := .int .i64 (s.c : Int)) (b4 := .slice bn s.ns.length cn) (b5 := .slice bz s.zs.length cz) (b6 := .slice bc s.col.length cc) hx1
    refine bodyPost_ret (results_cell_1 (p := 2) (u := 3) rfl _ _ w.heap.size 41 _ (0, 0) _ (by rfl) hF Tryz.underlying41 rfl (by kernel_rfl)) rfl ?_
    exact ⟨((But.of_below hb0).step (g1.mono (Nat.le_refl _) (fun _ x => x)) (fun _ _ x => x)).step hG (fun k hk e => by omega), _, _, _, rfl, owns_other hx1 hG I.on (by decide), owns_other hx1 hG I.os (by decide), owns_other hx1 hG I.oc (by decide)⟩
end
end Go.Proofs.YtlghjjennhpjeaaGreatDoor

/-
  How the program reads a shard, in plain words: piece by piece; the head and the manifest are the document's.
-/
import Derived.Test.YtlghjjennhpjeaaGreatDoorPlA
import Derived.Laws.AppendOwnNone
import Derived.Deep.RegionLaw
import Derived.Deep.CutRange
namespace Go.Proofs.YtlghjjennhpjeaaGreatDoor

/-- What of a shard has been read. -/
structure St where
  k : Nat
  n : Nat
  i : Nat
  c : Nat
  ns : List (List UInt8)
  zs : List Nat
  col : List UInt8
  m : Nat
  ln : Nat
  tt : Nat
  nx : Nat
  pl : Nat
def St.sz (s : St) : Nat := sizeR s.nx s.c s.m s.ln s.col.length
/-- What is wrong with a piece that bears a sum. -/
def sealP (s : St) (t : List UInt8) : Option (Nat × Nat) :=
  if t.length < s.sz then some (4, s.pl + t.length)
  else if sumOf (part t 0 (t.length - 8)) = le (part t (t.length - 8) 8) 0 8 then none else some (6, s.pl + (t.length - 8))
def numsP (t : List UInt8) : List (Nat × Nat × Int × Int) := [(6, le t 6 1, 1, 128), (7, le t 7 1, (le t 6 1 : Int), 128), (8, le t 8 1, 0, (le t 7 1 : Int) - 1), (9, le t 9 1, 0, 0), (10, le t 10 4, 1, 65536), (14, le t 14 4, 4, 300000), (18, le t 18 4, 0, 65536), (22, le t 22 2, 0, 0)]
def headP (s : St) (t : List UInt8) : Except (Nat × Nat) St :=
  match begE t magic1 with
  | some i => .error (5, s.pl + i)
  | none => match sealP s t with
    | some e => .error e
    | none => match numsE (numsP t) with
      | some p => .error (1, p)
      | none => .ok { s with k := le t 6 1, n := le t 7 1, i := le t 8 1, c := le t 10 4, m := le t 14 4, ln := le t 18 4 }
def manP (s : St) (t : List UInt8) : Except (Nat × Nat) St :=
  match sealP s t with
  | some e => .error e
  | none => match listP (part t 0 (t.length - 8)) with
    | .error p => .error (7, s.pl + p)
    | .ok (ns, zs) => if s.ln = lenC s.k zs.sum then .ok { s with ns := ns, zs := zs, tt := zs.sum, col := [] } else .error (7, 18)
/-- The first byte from a place on that is not 0. -/
def padP (u : List UInt8) (F : Int) : Option Nat := (List.range u.length).find? fun m => decide (F ≤ (m : Int) ∧ bAt u m ≠ 0)
def frameP (s : St) (t : List UInt8) : Except (Nat × Nat) St :=
  match sealP s t with
  | some e => .error e
  | none => match padP (part t 0 (t.length - 8)) (usedI s.k s.i s.tt - (s.col.length : Int)) with
    | some m => .error (8, s.pl + m)
    | none => .ok { s with col := s.col ++ part t 0 (t.length - 8) }
def tailP (s : St) (t : List UInt8) : Except (Nat × Nat) St :=
  match begE t magic2 with
  | some i => .error (5, s.pl + i)
  | none => if t.length < s.sz then .error (4, s.pl + t.length) else .ok s
/-- A piece is read. -/
def readP (s : St) (t : List UInt8) : Except (Nat × Nat) St :=
  if s.nx = 0 then headP s t else if s.nx = 1 then manP s t else if s.nx = 2 then frameP s t else tailP s t
/-- .. and the next begins. -/
def nextP (s : St) : Nat := if s.nx = 0 then 1 else if s.nx = 3 then 4 else if s.col.length < s.ln then 2 else 3
def moveP (s : St) (t : List UInt8) : St := { s with pl := s.pl + t.length, nx := nextP s }

structure Head (s : St) (Z : List UInt8) : Prop where
  ok : headE Z = none
  k : s.k = le Z 6 1
  n : s.n = le Z 7 1
  i : s.i = le Z 8 1
  c : s.c = le Z 10 4
  m : s.m = le Z 14 4
  ln : s.ln = le Z 18 4
structure Man (s : St) (Z : List UInt8) : Prop where
  head : Head s Z
  names : namesE Z s.m = .ok (s.ns, s.zs)
  long : s.ln = lengthS s.k s.zs
  tt : s.tt = s.zs.sum
  small : s.zs.sum ≤ 65536
/-- What the frames from here on come to. -/
def frE (s : St) (Z : List UInt8) (f a : Nat) (col : List UInt8) : Except (Nat × Nat) (List UInt8 × Nat) :=
  framesE Z (decide (s.i < s.k)) s.c s.ln ((totalS s.zs : Int) - ((s.i * lengthS s.k s.zs : Nat) : Int)) f a col
/-- These bytes begin with what has been read. -/
inductive Good (s : St) (Z : List UInt8) : Prop
  | head (h0 : s.nx = 0) (h1 : s.pl = 0) (h2 : s.col = [])
  | man (h0 : s.nx = 1) (h1 : s.pl = 32) (h2 : s.col = []) (hh : Head s Z)
  | frame (h0 : s.nx = 2) (hm : Man s Z) (h1 : s.col.length < s.ln) (f : Nat) (hf : s.ln ≤ f + s.col.length) (he : frE s Z s.ln (32 + s.m + 8) [] = frE s Z f s.pl s.col)
  | tail (h0 : s.nx = 3) (hm : Man s Z) (h1 : s.ln = s.col.length) (he : frE s Z s.ln (32 + s.m + 8) [] = .ok (s.col, s.pl))
  | done (h0 : s.nx = 4) (hm : Man s Z) (h1 : s.ln = s.col.length) (a : Nat) (ha : s.pl = a + 4) (he : frE s Z s.ln (32 + s.m + 8) [] = .ok (s.col, a)) (hx : fixE Z a magic2 = none)

theorem parse_of_head {Z : List UInt8} {e : Nat × Nat} (h : headE Z = some e) : parseE Z = .error e := by
  unfold parseE; rw [h]
theorem parse_of_names {s : St} {Z : List UInt8} {e : Nat × Nat} (h : Head s Z) (hn : namesE Z s.m = .error e) : parseE Z = .error e := by
  unfold parseE; rw [h.ok]; simp only; rw [← h.m, hn]
theorem parse_of_long {s : St} {Z : List UInt8} {ns : List (List UInt8)} {zs : List Nat} (h : Head s Z) (hn : namesE Z s.m = .ok (ns, zs)) (hl : ¬ s.ln = lengthS s.k zs) : parseE Z = .error (7, 18) := by
  unfold parseE; rw [h.ok]; simp only; rw [← h.m, hn]; simp only; rw [← h.ln, ← h.k, if_neg hl]
theorem parse_of_frames {s : St} {Z : List UInt8} {e : Nat × Nat} (h : Man s Z) (hf : frE s Z s.ln (32 + s.m + 8) [] = .error e) : parseE Z = .error e := by
  have hh := h.head
  unfold parseE; rw [hh.ok]; simp only; rw [← hh.m, h.names]; simp only; rw [← hh.ln, ← hh.k, if_pos h.long]
  unfold frE at hf
  rw [← hh.i, ← hh.c, hf]
theorem parse_of_tail {s : St} {Z : List UInt8} {e : Nat × Nat} {col : List UInt8} {a : Nat} (h : Man s Z) (hf : frE s Z s.ln (32 + s.m + 8) [] = .ok (col, a)) (ht : orE (fixE Z a magic2) (mustE (decide (Z.length ≤ a + 4)) 9 (a + 4)) = some e) : parseE Z = .error e := by
  have hh := h.head
  unfold parseE; rw [hh.ok]; simp only; rw [← hh.m, h.names]; simp only; rw [← hh.ln, ← hh.k, if_pos h.long]
  unfold frE at hf
  rw [← hh.i, ← hh.c, hf]
  simp only
  rw [ht]
theorem parse_of_all {s : St} {Z : List UInt8} {col : List UInt8} {a : Nat} (h : Man s Z) (hf : frE s Z s.ln (32 + s.m + 8) [] = .ok (col, a)) (ht : orE (fixE Z a magic2) (mustE (decide (Z.length ≤ a + 4)) 9 (a + 4)) = none) : parseE Z = .ok ⟨s.k, s.n, s.i, s.c, s.ns, s.zs, col⟩ := by
  have hh := h.head
  unfold parseE; rw [hh.ok]; simp only; rw [← hh.m, h.names]; simp only; rw [← hh.ln, ← hh.k, if_pos h.long]
  unfold frE at hf
  rw [← hh.i, ← hh.c, hf]
  simp only
  rw [ht, ← hh.n]

/-- The seal of a piece is the document's. -/
theorem seal_P {s : St} {Z t : List UInt8} {q : Nat} (hA : At Z s.pl t) (hz : s.sz = q + 8) (ht : t.length ≤ s.sz) {r : Option (Nat × Nat)} (h : sealP s t = r) (h4 : ∀ p, r = some (4, p) → Z.length = s.pl + t.length) : sealE Z s.pl q = r ∧ (r = none → t.length = q + 8) := by
  unfold sealP at h
  by_cases q0 : t.length < s.sz
  · rw [if_pos q0] at h
    have := h4 _ h.symm
    refine ⟨?_, fun e => by rw [e] at h; cases h⟩
    rw [seal_short (by omega), ← h, this]
  · rw [if_neg q0] at h
    have hl : t.length = q + 8 := by omega
    refine ⟨?_, fun _ => hl⟩
    rw [hA.seal hl, ← h, hl, Nat.add_sub_cancel]
theorem sz0 {s : St} (h : s.nx = 0) : s.sz = 24 + 8 := by unfold St.sz sizeR; rw [if_pos h]
theorem sz1 {s : St} (h : s.nx = 1) : s.sz = s.m + 8 := by unfold St.sz sizeR; rw [if_neg (by omega), if_pos h]
theorem sz2 {s : St} (h : s.nx = 2) : s.sz = min s.c (s.ln - s.col.length) + 8 := by unfold St.sz sizeR; rw [if_neg (by omega), if_neg (by omega), if_pos h]
theorem sz3 {s : St} (h : s.nx = 3) : s.sz = 4 := by unfold St.sz sizeR; rw [if_neg (by omega), if_neg (by omega), if_neg (by omega)]
theorem beg_short {t : List UInt8} {Z : List UInt8} {a n : Nat} {ws : List UInt8} (hA : At Z a t) (hb : begE t ws = none) (hs : sealE Z a n = some (4, Z.length)) (hz : Z.length = a + t.length) : orE (fixE Z a ws) (sealE Z a n) = some (4, Z.length) := by
  by_cases q : t.length < ws.length
  · rw [hA.fix_short hb q hz]; rfl
  · rw [hA.fix_none hb (by omega)]; exact hs

theorem head_P {s : St} {Z t : List UInt8} (h0 : s.nx = 0) (h1 : s.pl = 0) (h2 : s.col = []) (hA : At Z s.pl t) (ht : t.length ≤ s.sz) :
    (∀ e, headP s t = .error e → (e.1 = 4 → Z.length = s.pl + t.length) → headE Z = some e) ∧ (∀ s', headP s t = .ok s' → t.length = 32 ∧ Head s' Z ∧ s'.col = [] ∧ s'.nx = 0 ∧ s'.pl = 0) := by
  have hz := sz0 h0
  unfold headP
  cases hb : begE t magic1 with
  | some i =>
    refine ⟨fun e he _ => ?_, fun s' he => by cases he⟩
    cases he
    unfold headE
    rw [h1] at hA
    rw [hA.fix_some hb, h1]; rfl
  | none =>
    simp only
    cases hs : sealP s t with
    | some x =>
      refine ⟨fun e he h4 => ?_, fun s' he => by cases he⟩
      cases he
      obtain ⟨h5, _⟩ := seal_P hA hz ht hs (fun p hp => by cases hp; exact h4 rfl)
      rw [h1] at hA h5
      unfold headE
      by_cases q : t.length < 32
      · have hx : x = (4, s.pl + t.length) := by unfold sealP at hs; rw [if_pos (by omega)] at hs; cases hs; rfl
        have hZ := h4 (by rw [hx])
        rw [h1, Nat.zero_add] at hZ
        rw [beg_short hA hb (by rw [h5, hx, hZ, h1, Nat.zero_add]) (by omega)]
        rw [hx, hZ, h1, Nat.zero_add]
      · rw [hA.fix_none hb (by simp [magic1]; omega)]
        simp only [orE]
        rw [h5]
    | none =>
      obtain ⟨h5, h6⟩ := seal_P hA hz ht hs (fun p hp => by cases hp)
      have hl := h6 rfl
      rw [h1] at hA h5
      have hN : ∀ j n, j + n ≤ 32 → le Z j n = le t j n := fun j n hj => by have := hA.num n j (by omega); rw [Nat.zero_add] at this; exact this
      have hH : headE Z = (numsE (numsP t)).map (fun x => (1, x)) := by
        unfold headE
        rw [hA.fix_none hb (by simp [magic1]; omega)]
        simp only [orE]
        rw [h5]
        simp only
        rw [headR_nums, hN 6 1 (by omega), hN 7 1 (by omega), hN 8 1 (by omega), hN 9 1 (by omega), hN 10 4 (by omega), hN 14 4 (by omega), hN 18 4 (by omega), hN 22 2 (by omega)]
        rfl
      simp only
      cases hn : numsE (numsP t) with
      | some p =>
        refine ⟨fun e he _ => ?_, fun s' he => by cases he⟩
        cases he
        rw [hH, hn]; rfl
      | none =>
        refine ⟨fun e he => (by cases he), fun s' he => ?_⟩
        cases he
        exact ⟨hl, ⟨by rw [hH, hn]; rfl, (hN 6 1 (by omega)).symm, (hN 7 1 (by omega)).symm, (hN 8 1 (by omega)).symm, (hN 10 4 (by omega)).symm, (hN 14 4 (by omega)).symm, (hN 18 4 (by omega)).symm⟩, h2, h0, h1⟩

theorem lengthS_small {k : Nat} {zs : List Nat} (h : zs.sum ≤ 65536) : lengthS k zs = lenC k zs.sum := by
  unfold lengthS lenC totalS; rw [if_pos h]
theorem loopP_sum (u : List UInt8) : ∀ (c a : Nat) (ns : List (List UInt8)) (zs : List Nat) {ns' : List (List UInt8)} {zs' : List Nat}, zs.sum ≤ 65536 → loopP u c a ns zs = .ok (ns', zs') → zs'.sum ≤ 65536
  | 0, a, ns, zs, ns', zs', hz, h => by
    unfold loopP at h
    split at h
    · cases h
    · cases h; exact hz
  | c + 1, a, ns, zs, ns', zs', hz, h => by
    unfold loopP at h
    cases hb : blob1 u a ns zs with
    | error p => rw [hb] at h; cases h
    | ok x =>
      obtain ⟨nm, z⟩ := x
      rw [hb] at h
      refine loopP_sum u c _ _ _ ?_ h
      unfold blob1 at hb
      split at hb
      · cases hb
      · split at hb
        · cases hb
        · split at hb
          · cases hb
          · cases hb; simp; omega
theorem man_P {s : St} {Z t : List UInt8} (h0 : s.nx = 1) (h1 : s.pl = 32) (hh : Head s Z) (hA : At Z s.pl t) (ht : t.length ≤ s.sz) :
    (∀ e, manP s t = .error e → (e.1 = 4 → Z.length = s.pl + t.length) → parseE Z = .error e) ∧ (∀ s', manP s t = .ok s' → t.length = s.m + 8 ∧ Man s' Z ∧ s'.col = [] ∧ s'.nx = 1 ∧ s'.pl = 32 ∧ s'.m = s.m) := by
  have hz := sz1 h0
  have hr := hh.ok
  have hb : 4 ≤ s.m := by
    have h2 := hh.ok
    unfold headE at h2
    split at h2
    · cases h2
    · have := headR_none h2
      rw [hh.m]; omega
  unfold manP
  cases hs : sealP s t with
  | some x =>
    refine ⟨fun e he h4 => ?_, fun s' he => by cases he⟩
    cases he
    obtain ⟨h5, _⟩ := seal_P hA hz ht hs (fun p hp => by cases hp; exact h4 rfl)
    rw [h1] at h5
    exact parse_of_names hh (by unfold namesE; rw [h5])
  | none =>
    obtain ⟨h5, h6⟩ := seal_P hA hz ht hs (fun p hp => by cases hp)
    have hl := h6 rfl
    have hA2 := hA
    rw [h1] at hA h5
    simp only
    rw [hl, Nat.add_sub_cancel]
    have hU : At Z 32 (part t 0 s.m) := by have := hA.trans (At.of_part t (j := 0) (n := s.m) (by omega)); exact this
    have hUl : (part t 0 s.m).length = s.m := part_length (by omega)
    have hnm : namesE Z s.m = upE 32 (listP (part t 0 s.m)) := by
      unfold namesE listP
      rw [h5]
      simp only
      have e4 : le Z 32 4 = le (part t 0 s.m) 0 4 := hU.num 4 0 (by omega)
      rw [e4]
      by_cases q : 1000 < le (part t 0 s.m) 0 4
      · rw [if_pos q, if_pos q]; rfl
      · rw [if_neg q, if_neg q]
        exact loop_blobs hU hUl _ 4 [] [] (by omega) (by simp)
    cases hL : listP (part t 0 s.m) with
    | error p =>
      refine ⟨fun e he _ => ?_, fun s' he => by cases he⟩
      cases he
      refine parse_of_names hh ?_
      rw [hnm, hL, h1]; rfl
    | ok x =>
      obtain ⟨ns, zs⟩ := x
      simp only
      have hsm : zs.sum ≤ 65536 := by
        unfold listP at hL
        split at hL
        · cases hL
        · exact loopP_sum _ _ _ _ _ (by simp) hL
      have hnm2 : namesE Z s.m = .ok (ns, zs) := by rw [hnm, hL]; rfl
      by_cases q : s.ln = lenC s.k zs.sum
      · rw [if_pos q]
        refine ⟨fun e he => (by cases he), fun s' he => ?_⟩
        cases he
        exact ⟨trivial, ⟨⟨hh.ok, hh.k, hh.n, hh.i, hh.c, hh.m, hh.ln⟩, hnm2, by rw [lengthS_small hsm]; exact q, rfl, hsm⟩, rfl, h0, h1, rfl⟩
      · rw [if_neg q]
        refine ⟨fun e he _ => ?_, fun s' he => by cases he⟩
        cases he
        exact parse_of_long hh hnm2 (by rw [lengthS_small hsm]; exact q)
end Go.Proofs.YtlghjjennhpjeaaGreatDoor

/-
  How the program reads a shard, in plain words: piece by piece; the frames, the tail, and the whole are the document's.
-/
namespace Go.Proofs.YtlghjjennhpjeaaGreatDoor

theorem padP_some_iff {u : List UInt8} {F : Int} {m : Nat} : padP u F = some m ↔ m < u.length ∧ (F ≤ (m : Int) ∧ bAt u m ≠ 0) ∧ ∀ j, j < m → F ≤ (j : Int) → bAt u j = 0 := by
  unfold padP
  rw [List.find?_range_eq_some]
  constructor
  · rintro ⟨h1, h2, h3⟩
    refine ⟨by simpa using h2, by simpa using h1, fun j hj hF => ?_⟩
    have := h3 j hj
    simp only [Bool.not_eq_true', decide_eq_false_iff_not, not_and, Decidable.not_not] at this
    exact this hF
  · rintro ⟨h1, h2, h3⟩
    refine ⟨by simpa using h2, by simpa using h1, fun j hj => ?_⟩
    simp only [Bool.not_eq_true', decide_eq_false_iff_not, not_and, Decidable.not_not]
    exact h3 j hj
theorem padP_none_iff {u : List UInt8} {F : Int} : padP u F = none ↔ ∀ m, m < u.length → F ≤ (m : Int) → bAt u m = 0 := by
  unfold padP
  rw [List.find?_eq_none]
  constructor
  · intro h m hm hF
    have := h m (by simpa using hm)
    simp only [decide_eq_true_eq, not_and, Decidable.not_not] at this
    exact this hF
  · intro h m hm
    simp only [decide_eq_true_eq, not_and, Decidable.not_not]
    exact h m (by simpa using hm)
theorem padE_none {en : Int} : ∀ {p : List UInt8} {a m : Nat}, (∀ j, j < p.length → en ≤ ((m + j : Nat) : Int) → bAt p j = 0) → padE en a m p = none
  | [], _, _, _ => rfl
  | b :: p, a, m, h => by
    have h0 : (m : Int) < en ∨ b.toNat = 0 := by
      rcases Int.lt_or_le (m : Int) en with x | x
      · exact .inl x
      · exact .inr (h 0 (by simp) x)
    unfold padE
    rw [if_pos h0]
    refine padE_none (fun j hj hx => ?_)
    have := h (j + 1) (by simpa using hj) (by omega)
    rwa [bAt_cons] at this
theorem padE_some {en : Int} : ∀ {p : List UInt8} {a m : Nat} (i : Nat), i < p.length → en ≤ ((m + i : Nat) : Int) → bAt p i ≠ 0 → (∀ j, j < i → en ≤ ((m + j : Nat) : Int) → bAt p j = 0) → padE en a m p = some (8, a + i)
  | [], _, _, _, h, _, _, _ => by simp at h
  | b :: p, a, m, 0, _, h2, h3, _ => by
    unfold padE
    have : ¬ ((m : Int) < en ∨ b.toNat = 0) := by
      rintro (x | x)
      · omega
      · exact h3 x
    rw [if_neg this]; rfl
  | b :: p, a, m, i + 1, h1, h2, h3, h4 => by
    have h0 : (m : Int) < en ∨ b.toNat = 0 := by
      rcases Int.lt_or_le (m : Int) en with x | x
      · exact .inl x
      · exact .inr (h4 0 (by omega) x)
    unfold padE
    rw [if_pos h0]
    rw [padE_some (p := p) (a := a + 1) (m := m + 1) i (by simpa using h1) (by omega) (by rwa [bAt_cons] at h3) (fun j hj hx => ?_), show a + 1 + i = a + (i + 1) by omega]
    have := h4 (j + 1) (by omega) (by omega)
    rwa [bAt_cons] at this
/-- What fills up, by the program's count and by the document's. -/
theorem pad_P {k i tt cl a : Nat} {u : List UInt8} (hu : cl + u.length ≤ lenC k tt) : (if decide (i < k) then padE ((tt : Int) - ((i * lenC k tt : Nat) : Int)) a cl u else none) = (padP u (usedI k i tt - (cl : Int))).map (fun m => (8, a + m)) := by
  by_cases hik : i < k
  · rw [decide_eq_true hik, if_pos rfl]
    have hU : usedI k i tt = max 0 (min (lenC k tt : Int) ((tt : Int) - ((i * lenC k tt : Nat) : Int))) := by unfold usedI; rw [if_neg (by omega)]
    rw [hU]
    generalize ((tt : Int) - ((i * lenC k tt : Nat) : Int)) = en
    generalize lenC k tt = L at *
    cases hp : padP u (max 0 (min (L : Int) en) - (cl : Int)) with
    | none =>
      rw [padP_none_iff] at hp
      rw [padE_none (fun j hj hx => hp j hj (by omega))]; rfl
    | some m =>
      rw [padP_some_iff] at hp
      obtain ⟨h1, ⟨h2, h3⟩, h4⟩ := hp
      rw [padE_some m h1 (by omega) h3 (fun j hj hx => h4 j hj (by omega))]; rfl
  · rw [decide_eq_false hik, if_neg (by simp)]
    have hU : usedI k i tt = (lenC k tt : Int) := by unfold usedI; rw [if_pos (by omega)]
    rw [hU]
    have : padP u ((lenC k tt : Int) - (cl : Int)) = none := by
      rw [padP_none_iff]
      intro m hm hF
      omega
    rw [this]; rfl

theorem frame_P {s : St} {Z t : List UInt8} (h0 : s.nx = 2) (hm : Man s Z) (h1 : s.col.length < s.ln) (hc : 1 ≤ s.c) (f : Nat) (hf : s.ln ≤ f + s.col.length) (he : frE s Z s.ln (32 + s.m + 8) [] = frE s Z f s.pl s.col) (hA : At Z s.pl t) (ht : t.length ≤ s.sz) :
    (∀ e, frameP s t = .error e → (e.1 = 4 → Z.length = s.pl + t.length) → parseE Z = .error e) ∧
    (∀ s', frameP s t = .ok s' → t.length = s.sz ∧ Man s' Z ∧ s'.nx = 2 ∧ s'.pl = s.pl ∧ s'.ln = s.ln ∧ s'.col.length ≤ s'.ln ∧ ∃ f', s.ln ≤ f' + s'.col.length ∧ frE s' Z s'.ln (32 + s'.m + 8) [] = frE s' Z f' (s.pl + t.length) s'.col) := by
  have hz := sz2 h0
  obtain ⟨f, rfl⟩ : ∃ g, f = g + 1 := ⟨f - 1, by omega⟩
  have hstep : frE s Z (f + 1) s.pl s.col = match sealE Z s.pl (min (s.ln - s.col.length) s.c) with
      | some e => .error e
      | none => match (if decide (s.i < s.k) then padE ((totalS s.zs : Int) - ((s.i * lengthS s.k s.zs : Nat) : Int)) s.pl s.col.length (part Z s.pl (min (s.ln - s.col.length) s.c)) else none) with
        | some e => .error e
        | none => frE s Z f (s.pl + min (s.ln - s.col.length) s.c + 8) (s.col ++ part Z s.pl (min (s.ln - s.col.length) s.c)) := by
    unfold frE
    rw [framesE, if_neg (by omega)]
    all_goals rfl
  have hts : totalS s.zs = s.tt := by unfold totalS; rw [if_pos hm.small, hm.tt]
  have hlS : lengthS s.k s.zs = lenC s.k s.tt := by rw [lengthS_small hm.small, hm.tt]
  rw [Nat.min_comm] at hz
  obtain ⟨q, eq⟩ : ∃ q, min (s.ln - s.col.length) s.c = q := ⟨_, rfl⟩
  rw [eq] at hz hstep
  have hq1 : 1 ≤ q := by omega
  have hq2 : s.col.length + q ≤ s.ln := by omega
  unfold frameP
  cases hs : sealP s t with
  | some x =>
    refine ⟨fun e hx h4 => ?_, fun s' hx => by cases hx⟩
    cases hx
    obtain ⟨h5, _⟩ := seal_P hA hz ht hs (fun p hp => by cases hp; exact h4 rfl)
    refine parse_of_frames hm ?_
    rw [he, hstep, h5]
  | none =>
    obtain ⟨h5, h6⟩ := seal_P hA hz ht hs (fun p hp => by cases hp)
    have hl := h6 rfl
    have hP : part Z s.pl q = part t 0 q := hA.cut (j := 0) (by omega)
    have hPl : (part t 0 q).length = q := part_length (by omega)
    rw [h5, hts, hlS, hP] at hstep
    simp only at hstep
    rw [pad_P (u := part t 0 q) (by rw [hPl, ← hlS, ← hm.long]; omega)] at hstep
    simp only
    rw [hl, Nat.add_sub_cancel]
    cases hp : padP (part t 0 q) (usedI s.k s.i s.tt - (s.col.length : Int)) with
    | some m =>
      refine ⟨fun e hx _ => ?_, fun s' hx => by cases hx⟩
      cases hx
      refine parse_of_frames hm ?_
      rw [he, hstep, hp]; rfl
    | none =>
      refine ⟨fun e hx => (by cases hx), fun s' hx => ?_⟩
      cases hx
      refine ⟨by omega, ⟨⟨hm.head.ok, hm.head.k, hm.head.n, hm.head.i, hm.head.c, hm.head.m, hm.head.ln⟩, hm.names, hm.long, hm.tt, hm.small⟩, h0, rfl, rfl, ?_, f, ?_, ?_⟩
      · simp only [List.length_append]; rw [hPl]; exact hq2
      · simp only [List.length_append]; rw [hPl]; omega
      · rw [hp] at hstep
        have : frE s Z s.ln (32 + s.m + 8) [] = frE s Z f (s.pl + q + 8) (s.col ++ part t 0 q) := by rw [he, hstep]; rfl
        unfold frE at this ⊢
        rw [← Nat.add_assoc]
        exact this

theorem tail_P {s : St} {Z t : List UInt8} (h0 : s.nx = 3) (hm : Man s Z) (he : frE s Z s.ln (32 + s.m + 8) [] = .ok (s.col, s.pl)) (hA : At Z s.pl t) (ht : t.length ≤ s.sz) :
    (∀ e, tailP s t = .error e → (e.1 = 4 → Z.length = s.pl + t.length) → parseE Z = .error e) ∧ (∀ s', tailP s t = .ok s' → t.length = 4 ∧ s' = s ∧ fixE Z s.pl magic2 = none) := by
  have hz := sz3 h0
  unfold tailP
  cases hb : begE t magic2 with
  | some i =>
    refine ⟨fun e hx _ => ?_, fun s' hx => by cases hx⟩
    cases hx
    refine parse_of_tail hm he ?_
    rw [hA.fix_some hb]; rfl
  | none =>
    simp only
    by_cases q : t.length < s.sz
    · rw [if_pos q]
      refine ⟨fun e hx h4 => ?_, fun s' hx => by cases hx⟩
      cases hx
      have hZ := h4 rfl
      refine parse_of_tail hm he ?_
      rw [hA.fix_short hb (by simp [magic2]; omega) hZ, hZ]; rfl
    · rw [if_neg q]
      refine ⟨fun e hx => (by cases hx), fun s' hx => ?_⟩
      cases hx
      exact ⟨by omega, rfl, hA.fix_none hb (by simp [magic2]; omega)⟩

theorem Head.facts {s : St} {Z : List UInt8} (hh : Head s Z) : 1 ≤ s.k ∧ s.k ≤ 128 ∧ s.k ≤ s.n ∧ s.n ≤ 128 ∧ s.i < s.n ∧ 1 ≤ s.c ∧ s.c ≤ 65536 ∧ 4 ≤ s.m ∧ s.m ≤ 300000 ∧ s.ln ≤ 65536 := by
  have h2 := hh.ok
  unfold headE at h2
  split at h2
  · cases h2
  · have := headR_none h2
    rw [hh.k, hh.n, hh.i, hh.c, hh.m, hh.ln]; omega
/-- A piece that is wrong: so is the whole, in the same way. -/
theorem read_err {s : St} {Z t : List UInt8} (hG : Good s Z) (h4 : s.nx ≠ 4) (hA : At Z s.pl t) (ht : t.length ≤ s.sz) {e : Nat × Nat} (h : readP s t = .error e) (hs : e.1 = 4 → Z.length = s.pl + t.length) : parseE Z = .error e := by
  unfold readP at h
  cases hG with
  | head h0 h1 h2 => rw [if_pos h0] at h; exact parse_of_head ((head_P h0 h1 h2 hA ht).1 e h hs)
  | man h0 h1 h2 hh => rw [if_neg (by omega), if_pos h0] at h; exact (man_P h0 h1 hh hA ht).1 e h hs
  | frame h0 hm h1 f hf he => rw [if_neg (by omega), if_neg (by omega), if_pos h0] at h; exact (frame_P h0 hm h1 hm.head.facts.2.2.2.2.2.1 f hf he hA ht).1 e h hs
  | tail h0 hm h1 he => rw [if_neg (by omega), if_neg (by omega), if_neg (by omega)] at h; exact (tail_P h0 hm he hA ht).1 e h hs
  | done h0 => exact absurd h0 h4
/-- A piece that is right: the next one begins behind it. -/
theorem read_ok {s s' : St} {Z t : List UInt8} (hG : Good s Z) (h4 : s.nx ≠ 4) (hA : At Z s.pl t) (ht : t.length ≤ s.sz) (h : readP s t = .ok s') : t.length = s.sz ∧ Good (moveP s' t) Z ∧ s'.pl = s.pl ∧ s'.nx = s.nx := by
  unfold readP at h
  cases hG with
  | head h0 h1 h2 =>
    rw [if_pos h0] at h
    obtain ⟨a1, a2, a3, a4, a5⟩ := (head_P h0 h1 h2 hA ht).2 s' h
    refine ⟨by rw [sz0 h0]; omega, ?_, by omega, by omega⟩
    refine .man ?_ ?_ a3 ⟨a2.ok, a2.k, a2.n, a2.i, a2.c, a2.m, a2.ln⟩
    · simp only [moveP, nextP]; rw [if_pos a4]
    · simp only [moveP]; omega
  | man h0 h1 h2 hh =>
    rw [if_neg (by omega), if_pos h0] at h
    obtain ⟨a1, a2, a3, a4, a5, a6⟩ := (man_P h0 h1 hh hA ht).2 s' h
    refine ⟨by rw [sz1 h0]; omega, ?_, by omega, by omega⟩
    have hM : Man (moveP s' t) Z := ⟨⟨a2.head.ok, a2.head.k, a2.head.n, a2.head.i, a2.head.c, a2.head.m, a2.head.ln⟩, a2.names, a2.long, a2.tt, a2.small⟩
    have hpl : (moveP s' t).pl = 32 + (moveP s' t).m + 8 := by simp only [moveP]; omega
    have hcol : (moveP s' t).col = [] := a3
    have hln : (moveP s' t).ln = s'.ln := rfl
    by_cases q : 0 < s'.ln
    · refine .frame ?_ hM (by rw [hcol, hln]; simpa using q) s'.ln (by rw [hln]; omega) (by rw [hpl, hcol, hln])
      simp only [moveP, nextP]
      rw [if_neg (by omega), if_neg (by omega), if_pos (by rw [a3]; simpa using q)]
    · refine .tail ?_ hM (by rw [hcol, hln]; simp; omega) ?_
      · simp only [moveP, nextP]
        rw [if_neg (by omega), if_neg (by omega), if_neg (by rw [a3]; simpa using q)]
      · rw [hpl, hcol, hln, show s'.ln = 0 by omega]
        unfold frE
        rw [framesE]
  | frame h0 hm h1 f hf he =>
    rw [if_neg (by omega), if_neg (by omega), if_pos h0] at h
    obtain ⟨a1, a2, a3, a4, a5, a6, f', a7, a8⟩ := (frame_P h0 hm h1 hm.head.facts.2.2.2.2.2.1 f hf he hA ht).2 s' h
    refine ⟨a1, ?_, a4, by omega⟩
    have hM : Man (moveP s' t) Z := ⟨⟨a2.head.ok, a2.head.k, a2.head.n, a2.head.i, a2.head.c, a2.head.m, a2.head.ln⟩, a2.names, a2.long, a2.tt, a2.small⟩
    have h9 : frE (moveP s' t) Z (moveP s' t).ln (32 + (moveP s' t).m + 8) [] = frE (moveP s' t) Z f' (moveP s' t).pl (moveP s' t).col := by
      have e9 : (moveP s' t).pl = s.pl + t.length := by simp only [moveP]; omega
      rw [e9]; exact a8
    by_cases q : s'.col.length < s'.ln
    · refine .frame ?_ hM q f' (by show s'.ln ≤ f' + s'.col.length; omega) h9
      simp only [moveP, nextP]
      rw [if_neg (by omega), if_neg (by omega), if_pos q]
    · refine .tail ?_ hM (by show s'.ln = s'.col.length; omega) ?_
      · simp only [moveP, nextP]
        rw [if_neg (by omega), if_neg (by omega), if_neg q]
      · rw [h9]
        unfold frE
        cases f' with
        | zero => rw [framesE]
        | succ f' => rw [framesE, if_pos (by show s'.ln ≤ s'.col.length; omega)]
  | tail h0 hm h1 he =>
    rw [if_neg (by omega), if_neg (by omega), if_neg (by omega)] at h
    obtain ⟨a1, rfl, a3⟩ := (tail_P h0 hm he hA ht).2 s' h
    refine ⟨by rw [sz3 h0]; omega, ?_, rfl, rfl⟩
    refine .done ?_ ⟨⟨hm.head.ok, hm.head.k, hm.head.n, hm.head.i, hm.head.c, hm.head.m, hm.head.ln⟩, hm.names, hm.long, hm.tt, hm.small⟩ h1 s'.pl ?_ he a3
    · simp only [moveP, nextP]; rw [if_neg (by omega), if_pos h0]
    · simp only [moveP]; omega
  | done h0 => exact absurd h0 h4
def St.shd (s : St) : Shd := ⟨s.k, s.n, s.i, s.c, s.ns, s.zs, s.col⟩
theorem read_end {s : St} {Z : List UInt8} (hG : Good s Z) (h4 : s.nx = 4) : parseE Z = if Z.length ≤ s.pl then .ok s.shd else .error (9, s.pl) := by
  cases hG with
  | done h0 hm h1 a ha he hx =>
    by_cases q : Z.length ≤ s.pl
    · rw [if_pos q, ← show parseE Z = .ok s.shd from parse_of_all hm he (by rw [hx]; simp only [orE, mustE]; rw [if_pos (by simp; omega)])]
    · rw [if_neg q, ha]
      exact parse_of_tail hm he (by rw [hx]; simp only [orE, mustE]; rw [if_neg (by simp; omega)])
  | head h0 => omega
  | man h0 => omega
  | frame h0 => omega
  | tail h0 => omega
theorem Good.bounds {s : St} {Z : List UInt8} (hG : Good s Z) : s.nx ≤ 4 ∧ (s.nx = 0 ∨ 1 ≤ s.k ∧ s.k ≤ 128 ∧ s.k ≤ s.n ∧ s.n ≤ 128 ∧ s.i < s.n ∧ 1 ≤ s.c ∧ s.c ≤ 65536 ∧ 4 ≤ s.m ∧ s.m ≤ 300000 ∧ s.ln ≤ 65536) ∧ (s.nx ≤ 1 → s.col = []) ∧ (s.nx = 2 → s.col.length < s.ln) ∧ (2 ≤ s.nx → s.tt ≤ 65536 ∧ s.col.length ≤ s.ln) := by
  cases hG with
  | head h0 h1 h2 => exact ⟨by omega, .inl h0, fun _ => h2, by omega, by omega⟩
  | man h0 h1 h2 hh => exact ⟨by omega, .inr hh.facts, fun _ => h2, by omega, by omega⟩
  | frame h0 hm h1 f hf he => exact ⟨by omega, .inr hm.head.facts, by omega, fun _ => h1, fun _ => ⟨by rw [hm.tt]; exact hm.small, by omega⟩⟩
  | tail h0 hm h1 he => exact ⟨by omega, .inr hm.head.facts, by omega, by omega, fun _ => ⟨by rw [hm.tt]; exact hm.small, by omega⟩⟩
  | done h0 hm h1 => exact ⟨by omega, .inr hm.head.facts, by omega, by omega, fun _ => ⟨by rw [hm.tt]; exact hm.small, by omega⟩⟩
end Go.Proofs.YtlghjjennhpjeaaGreatDoor

/-
  How the program reads a shard: a Reading and what it stands for; fill.
  How the program reads a shard: fill.
-/
namespace Go.Proofs.YtlghjjennhpjeaaGreatDoor
open Go.RowKit Go.Deep

/-- The Reading that stands for this. -/
def St.rd (s : St) (vN vS vC vT vF : Value) : Rd := ⟨s.k, s.n, s.i, s.c, vN, vS, vC, s.m, s.ln, s.tt, s.nx, s.pl, vT, vF⟩
/-- A Reading in memory: what has been read, and what has come of the next piece. -/
structure RI (B : Nat) (w : World) (rb : Nat) (s : St) (t : List UInt8) (vN vS vC vT : Value) : Prop where
  rd : RdAt w rb (s.rd vN vS vC vT .nilIface)
  on : w.ownsRow B 9 1 vN s.ns.length (strsV s.ns)
  os : w.ownsRow B 3 1 vS s.zs.length (natV s.zs)
  oc : OwnB B w vC s.col
  ot : OwnB B w vT t
  ap : Apart2 vC vT
  size : B ≤ w.heap.size
/-- The blocks that a Reading may turn. -/
def Mine (rb : Nat) (vC vT : Value) (k : Nat) : Prop := k = rb ∨ vC.ownBlock = some k ∨ vT.ownBlock = some k
/-- How great its numbers are. -/
structure Bd (s : St) : Prop where
  m : s.m ≤ 300000
  c : s.c ≤ 65536
  ln : s.ln ≤ 65536
  col : s.col.length ≤ s.ln
  nx : s.nx ≤ 4
  pl : s.pl ≤ 1000000
theorem OwnB.lies {B : Nat} {w : World} {v : Value} {l : List UInt8} (h : OwnB B w v l) : Lies w v (u8V l) := by
  have h2 := h
  unfold OwnB at h
  rcases h.2 with ⟨e, h0⟩ | ⟨g, c, cur, e, hg, hh, hc, _⟩
  · subst e
    have : l = [] := List.length_eq_zero_iff.1 h0
    subst this
    exact ⟨none, 0, rfl, by simp [u8V], fun j u hj => by simp [u8V] at hj⟩
  · refine ⟨some ⟨g, 0, none⟩, c, by rw [e, u8V_length], by rw [u8V_length]; exact hc, fun j u hj => ⟨g, 0, rfl, ?_⟩⟩
    obtain ⟨hj1, rfl⟩ := u8V_at hj
    rw [e] at h2
    have := World.ownsRow.cellAt h2 j (by omega)
    rw [Nat.zero_add, this]
    exact u8V_get hj1
theorem OwnB.slice {B : Nat} {w : World} {v : Value} {l : List UInt8} (h : OwnB B w v l) : ∃ ba cap, v = .slice ba l.length cap ∧ l.length ≤ cap := by
  obtain ⟨ba, cap, e, hc, _⟩ := h.lies
  rw [u8V_length] at e hc
  exact ⟨ba, cap, e, hc⟩
set_option maxRecDepth 100000 in
theorem slice_hi (a : Option Addr) (len cap : Nat) (N : Int) (n : Nat) (hN : N = n) (hn : n ≤ cap) : ∀ w, (Instr.slice 24 (.slice a len cap) none (some (.int .i64 N)) none).run Tryz.prog w = .ok (.slice a n cap) w := by
  intro w
  subst hN
  have hu : Tryz.prog.underlying 24 = some (.slice (Tryz.prog.elem 24)) := Tryz.underlying24
  rw [run_slice_h w 24 _ _ _ hu .i64 n (by omega) (by omega)]
  have hsz : (sizeOf (Tryz.prog.elem 24)).run Tryz.prog w = .ok 1 w := by
    simp [sizeOf, go_sem]
    rfl
  rw [hsz]
  simp only [Result.andThen, sliced, Int.toNat_natCast, Nat.mul_one]
  cases a with
  | none => simp
  | some ad => simp [Addr.add]
set_option maxRecDepth 100000 in
theorem slice_lo (a : Option Addr) (len cap : Nat) (N : Int) (n : Nat) (hN : N = n) (hn : n ≤ len) : ∀ w, (Instr.slice 24 (.slice a len cap) (some (.int .i64 N)) none none).run Tryz.prog w = .ok (.slice (if cap = n then a else a.map (·.add n)) (len - n) (cap - n)) w := by
  subst hN
  have hu : Tryz.prog.underlying 24 = some (.slice (Tryz.prog.elem 24)) := Tryz.underlying24
  have hsz : ∀ w, (sizeOf (Tryz.prog.elem 24)).run Tryz.prog w = .ok 1 w := fun w => by
    simp [sizeOf, go_sem]
    rfl
  intro w
  rw [run_slice_l w 24 _ _ _ hu .i64 n (by omega) (by omega), hsz]
  simp only [Result.andThen, Int.toNat_natCast, sliced, Nat.mul_one]
/-- A part that is handed in: nothing, or bytes behind an address, in none of those blocks. -/
def Pt (w : World) (M : Nat → Prop) (v : Value) (p : List UInt8) : Prop :=
  (v = .slice none 0 0 ∧ p = []) ∨ ∃ ad cap, v = .slice (some ad) p.length cap ∧ p.length ≤ cap ∧ (0 < p.length → ¬ M ad.block) ∧ ∀ j, j < p.length → w.cell? (ad.add j) = some (.int .u8 (bAt p j : Int))
theorem add_block (ad : Addr) (j : Nat) : (ad.add j).block = ad.block := by
  unfold Addr.add
  split <;> rfl
theorem add_add (ad : Addr) (i j : Nat) : (ad.add i).add j = ad.add (i + j) := by
  unfold Addr.add
  by_cases h1 : i = 0
  · simp [h1]
  · by_cases h2 : j = 0
    · simp [h2]
    · have : ¬ i + j = 0 := by omega
      simp only [h1, h2, this, if_false, Nat.add_assoc]
theorem Pt.cut {w : World} {M : Nat → Prop} {ad : Addr} {cap n : Nat} {p : List UInt8} (h1 : p.length ≤ cap) (h2 : 0 < p.length → ¬ M ad.block) (h3 : ∀ j, j < p.length → w.cell? (ad.add j) = some (.int .u8 (bAt p j : Int))) (hn : n ≤ p.length) : Pt w M (.slice (if cap = n then some ad else (some ad).map (·.add n)) (p.length - n) (cap - n)) (p.drop n) := by
  right
  have hl : (p.drop n).length = p.length - n := by simp
  by_cases q : cap = n
  · rw [if_pos q]
    exact ⟨ad, _, by rw [hl], by rw [hl]; omega, fun h => h2 (by omega), fun j hj => by rw [hl] at hj; omega⟩
  · rw [if_neg q]
    refine ⟨ad.add n, _, by rw [hl]; rfl, by rw [hl]; omega, fun h => by rw [add_block]; exact h2 (by omega), fun j hj => ?_⟩
    rw [hl] at hj
    rw [add_add, h3 (n + j) (by omega)]
    simp [bAt, List.getD_eq_getElem?_getD]
theorem Pt.later {w w' : World} {M M' S : Nat → Prop} {v : Value} {p : List UInt8} (h : Pt w M v p) (hb : But w.heap.size S w w') (hS : ∀ k, S k → M k) (hM : ∀ k, k < w.heap.size → M' k → M k) : Pt w' M' v p := by
  rcases h with h | ⟨ad, cap, rfl, h1, h2, h3⟩
  · exact .inl h
  · right
    refine ⟨ad, cap, rfl, h1, fun h => ?_, fun j hj => ?_⟩
    · have hlt : (ad.add 0).block < w.heap.size := cell_lt (h3 0 h)
      rw [add_block] at hlt
      exact fun x => h2 h (hM _ hlt x)
    · have hlt : (ad.add j).block < w.heap.size := cell_lt (h3 j hj)
      have hnS : ¬ S (ad.add j).block := fun x => h2 (by omega) (by rw [add_block] at x; exact hS _ x)
      rw [hb.cell hlt hnS]
      exact h3 j hj
theorem step_append_at {P : Program} {ops : Array Oper} {o : Oper} {a : Act} {w : World} {K : Act → World → Prop} {Q : Exit → Act → World → Prop} {E : Prop}
    (hg : o.guard = none) (s x : Operand) (t : TypeId) (hop : o.op = Op.call { callee := Callee.builtin Builtin.append, args := #[s, x], argTypes := #[t, t] })
    (base : Nat) (e : TypeId) (i : TypeInfo) (z : Value) (size bytes : Nat) (h1 : P.underlying t = some (.slice e)) (h2 : P.info? e = some i) (h3 : i.zero = some z) (h4 : i.size = size) (h5 : i.bytes = bytes) (h6 : z.cells.size = size) (h7 : 0 < size)
    (v : Value) (n : Nat) (xs : List Value) (hs : a.eval s = v) (hown : w.ownsRow base e size v n xs)
    (ad : Addr) (m c : Nat) (news : List Value) (hx : a.eval x = .slice (some ad) m c) (hn : news.length = m * size) (hc : ∀ j u, news[j]? = some u → w.cell? (ad.add j) = some u) (h1c : ∀ u ∈ news, u.oneCell' = true)
    (b1 : n + m ≤ maxLen) (b2 : (n + m) * bytes ≤ 140737488355328) (hbase : base ≤ w.heap.size)
    (hK : ∀ v' w', w'.ownsRow base e size v' (n + m) (xs ++ news) → w.grownBy w' v.ownBlock → (v'.ownBlock = v.ownBlock ∨ v'.ownBlock = some w.heap.size) → K (a.put o.dst v') w') :
    if Region.wanted o (yielded ops a.tmps) = true then Oper.wp P o a w K Q else E := by
  have hw : Region.wanted o (yielded ops a.tmps) = true := by simp [Region.wanted, hg]
  rw [if_pos hw]
  obtain ⟨v', w', hr, r1, r2, _, r4⟩ := run_append_own_at (P := P) w base t o.type e i z size bytes h1 h2 h3 h4 h5 h6 h7 v n xs hown ad m c news hn hc h1c b1 b2 hbase
  unfold Oper.wp
  simp [execOp, hop, resolve, invoke, builtin, hs, hx, hr, Result.andThen]
  exact hK v' w' r1 r2 r4
theorem step_append_nil {P : Program} {ops : Array Oper} {o : Oper} {a : Act} {w : World} {K : Act → World → Prop} {Q : Exit → Act → World → Prop} {E : Prop}
    (hg : o.guard = none) (s x : Operand) (t : TypeId) (hop : o.op = Op.call { callee := Callee.builtin Builtin.append, args := #[s, x], argTypes := #[t, t] })
    (base : Nat) (e : TypeId) (i : TypeInfo) (size : Nat) (h1 : P.underlying t = some (.slice e)) (h2 : P.info? e = some i)
    (v : Value) (n : Nat) (xs : List Value) (hs : a.eval s = v) (hown : w.ownsRow base e size v n xs) (hx : a.eval x = .slice none 0 0)
    (hK : K (a.put o.dst v) w) :
    if Region.wanted o (yielded ops a.tmps) = true then Oper.wp P o a w K Q else E := by
  have hw : Region.wanted o (yielded ops a.tmps) = true := by simp [Region.wanted, hg]
  rw [if_pos hw]
  have hr := run_append_owned_none (P := P) (w := w) base t o.type e i size h1 h2 v n xs hown
  unfold Oper.wp
  simp [execOp, hop, resolve, invoke, builtin, hs, hx, hr, Result.andThen]
  exact hK

/-- Rows of different kinds lie apart. -/
theorem owns_kind {w : World} {B e n : Nat} {v : Value} {xs : List Value} (h : w.ownsRow B e 1 v n xs) {g : Nat} (hg : v.ownBlock = some g) : ∃ cur, w.heap[g]? = some (.cells cur e (0, 0)) := by
  rcases h.2 with ⟨rfl, _⟩ | ⟨g', cap, cur, rfl, _, hh, _⟩
  · cases hg
  · cases hg
    exact ⟨cur, hh⟩
theorem owns_rd {w : World} {B e n rb : Nat} {v : Value} {xs : List Value} {r : Rd} (h : w.ownsRow B e 1 v n xs) (hr : RdAt w rb r) (he : e ≠ 102) : v.ownBlock ≠ some rb := by
  intro hg
  obtain ⟨cur, hh⟩ := owns_kind h hg
  have hr' : w.heap[rb]? = some (.cells r.cells.toArray 102 (0, 0)) := hr
  rw [hr'] at hh
  cases hh
  exact he rfl
theorem owns_apart {w : World} {B e e' n n' : Nat} {v v' : Value} {xs xs' : List Value} (h : w.ownsRow B e 1 v n xs) (h' : w.ownsRow B e' 1 v' n' xs') (he : e ≠ e') : Apart2 v v' := by
  intro g hg hg'
  obtain ⟨cur, hh⟩ := owns_kind h hg
  obtain ⟨cur', hh'⟩ := owns_kind h' hg'
  rw [hh] at hh'
  cases hh'
  exact he rfl
theorem RdAt.setT {w : World} {rb : Nat} {s : St} {vN vS vC vT vF : Value} (h : RdAt w rb (s.rd vN vS vC vT vF)) (v : Value) : RdAt (w.setCell ⟨rb, 12, none⟩ v) rb (s.rd vN vS vC v vF) := RowAt.set h 12 v
theorem owns_set {w : World} {B e n rb i : Nat} {v u : Value} {xs : List Value} (h : w.ownsRow B e 1 v n xs) (hr : v.ownBlock ≠ some rb) : (w.setCell ⟨rb, i, none⟩ u).ownsRow B e 1 v n xs :=
  owns_later h (fun g hg => Below.heap_setCell _ _ _ _ (fun e => hr (by rw [hg, e])))
/-- The text grows. -/
theorem RI.text {B rb : Nat} {w w1 : World} {s : St} {t x : List UInt8} {vN vS vC vT v1 : Value} (I : RI B w rb s t vN vS vC vT) (h1 : OwnB B w1 v1 (t ++ x)) (hg : w.grownBy w1 vT.ownBlock) (hk : v1.ownBlock = vT.ownBlock ∨ v1.ownBlock = some w.heap.size) :
    RI B (w1.setCell ⟨rb, 12, none⟩ v1) rb s (t ++ x) vN vS vC v1 ∧ But w.heap.size (Mine rb vC vT) w (w1.setCell ⟨rb, 12, none⟩ v1) ∧ w1.cell? ⟨rb, 12, none⟩ = some vT ∧ w1.frozen? ⟨rb, 12, none⟩ = false := by
  have hrlt := RowAt.lt I.rd
  have hT := owns_rd I.ot I.rd (by decide)
  have hR1 : RdAt w1 rb (s.rd vN vS vC vT .nilIface) := by
    unfold RdAt RowAt at *
    rw [hg.block rb hrlt (fun e => hT e.symm)]
    exact I.rd
  have key : ∀ {e n : Nat} {v : Value} {xs : List Value}, w.ownsRow B e 1 v n xs → Apart2 v vT → w1.ownsRow B e 1 v n xs := fun h ha => owns_later h (fun g hg' => hg.block g (h.lt g hg').2 (fun e => ha g hg' e.symm))
  have hN1 := key I.on (owns_apart I.on I.ot (by decide))
  have hS1 := key I.os (owns_apart I.os I.ot (by decide))
  have hC1 := key I.oc I.ap
  refine ⟨⟨hR1.setT v1, owns_set hN1 (owns_rd hN1 hR1 (by decide)), owns_set hS1 (owns_rd hS1 hR1 (by decide)), owns_set hC1 (owns_rd hC1 hR1 (by decide)), owns_set h1 (owns_rd h1 hR1 (by decide)), ?_, ?_⟩, ?_, RowAt.cell hR1 (i := 12) rfl, RowAt.frozen hR1 12⟩
  · intro g hg1 hg2
    rcases hk with e | e
    · exact I.ap g hg1 (e ▸ hg2)
    · have h2 := (World.ownsRow.lt I.oc g hg1).2
      rw [e] at hg2
      cases hg2
      omega
  · have := I.size; have := hg.size; simp; omega
  · exact But.setCell (But.mono (But.of_grown hg) (Nat.le_refl _) (fun k hk => .inr (.inr hk))) (p := ⟨rb, 12, none⟩) (.inr (.inl rfl)) v1
end Go.Proofs.YtlghjjennhpjeaaGreatDoor

namespace Go.Proofs.YtlghjjennhpjeaaGreatDoor
open Go.RowKit Go.Deep

theorem u8V_app (a b : List UInt8) : u8V a ++ u8V b = u8V (a ++ b) := by simp [u8V]
theorem St.sz_le {s : St} (hb : Bd s) : s.sz ≤ 400000 := by
  unfold St.sz sizeR
  have := hb.m; have := hb.c; have := hb.ln
  split
  · omega
  · split
    · omega
    · split
      · omega
      · omega
theorem RI.drewN {B rb : Nat} {w : World} {s : St} {t : List UInt8} {vN vS vC vT : Value} (I : RI B w rb s t vN vS vC vT) (j : Nat) : RI B (w.drewN j) rb s t vN vS vC vT := ⟨I.rd, I.on, I.os, I.oc, I.ot, I.ap, I.size⟩
theorem RI.drew {B rb : Nat} {w : World} {s : St} {t : List UInt8} {vN vS vC vT : Value} (I : RI B w rb s t vN vS vC vT) : RI B w.drew rb s t vN vS vC vT := ⟨I.rd, I.on, I.os, I.oc, I.ot, I.ap, I.size⟩
theorem own_app {B n : Nat} {w : World} {v : Value} {t x : List UInt8} (h : w.ownsRow B 5 1 v n (u8V t ++ u8V x)) : OwnB B w v (t ++ x) := by
  rw [u8V_app] at h
  exact OwnB.of h
theorem Mine.fresh {rb H k : Nat} {vC vT v' : Value} (hk : v'.ownBlock = vT.ownBlock ∨ v'.ownBlock = some H) (hlt : k < H) (h : Mine rb vC v' k) : Mine rb vC vT k := by
  rcases h with h | h | h
  · exact .inl h
  · exact .inr (.inl h)
  · rcases hk with e | e
    · exact .inr (.inr (e ▸ h))
    · rw [e] at h
      cases h
      omega
theorem Pt.cut_later {w w' : World} {rb cp n : Nat} {ad : Addr} {vC vT v' : Value} {p : List UInt8} (hcp : p.length ≤ cp) (hM : 0 < p.length → ¬ Mine rb vC vT ad.block) (hcell : ∀ j, j < p.length → w.cell? (ad.add j) = some (.int .u8 (bAt p j : Int))) (hn : n ≤ p.length) (hb : But w.heap.size (Mine rb vC vT) w w') (hk : v'.ownBlock = vT.ownBlock ∨ v'.ownBlock = some w.heap.size) :
    Pt w' (Mine rb vC v') (.slice (if cp = n then some ad else (some ad).map (·.add n)) (p.length - n) (cp - n)) (p.drop n) := by
  have h0 : Pt w (Mine rb vC vT) (.slice (some ad) p.length cp) p := .inr ⟨ad, cp, rfl, hcp, hM, hcell⟩
  have h1 := h0.later hb (fun _ x => x) (fun k hk' x => Mine.fresh hk hk' x)
  rcases h1 with ⟨e, _⟩ | ⟨ad', cp', e, h2, h3, h4⟩
  · cases e
  · injection e with e1 e2 e3
    injection e1 with e1
    subst e1 e3
    exact Pt.cut h2 h3 h4 hn
/-- What fill leaves. -/
def FillPost (B : Nat) (w : World) (rb : Nat) (s : St) (t p : List UInt8) (vN vS vC vT : Value) (q : Ending) (w' : World) : Prop :=
  ∃ v' vT', q = .returned v' ∧ Pt w' (Mine rb vC vT') v' (p.drop (s.sz - t.length)) ∧ RI B w' rb s (t ++ p.take (s.sz - t.length)) vN vS vC vT' ∧ But w.heap.size (Mine rb vC vT) w w' ∧ (vT'.ownBlock = vT.ownBlock ∨ ∃ g, vT'.ownBlock = some g ∧ w.heap.size ≤ g)

section
variable (B rb : Nat) (s : St) (t p : List UInt8) (vN vS vC vT vp : Value) (hb : Bd s) (hnx : s.nx ≤ 3) (ht : t.length ≤ s.sz) (hp : p.length ≤ 4611686018427387904) (w : World) (I : RI B w rb s t vN vS vC vT) (hP : Pt w (Mine rb vC vT) vp p)
set_option maxHeartbeats 4000000 in
set_option maxRecDepth 100000 in
include hb hnx ht hp I hP in
theorem fill_any : Calls Tryz.prog 88 #[.pointer (some ⟨rb, 0, none⟩), vp] w fun q w' => FillPost B w rb s t p vN vS vC vT q w' := by
  obtain ⟨bc, cc, eC, hcc⟩ := I.oc.slice
  obtain ⟨bt, ct, eT, hct⟩ := I.ot.slice
  subst eT
  have KS := fun n => size_any rb (s.rd vN vS vC (.slice bt t.length ct) .nilIface) bc s.col.length cc eC (by have := hb.m; exact Nat.le_trans this (by omega)) (by have := hb.c; exact Nat.le_trans this (by omega)) (by have := hb.ln; exact Nat.le_trans this (by omega)) hb.col hnx (w.drewN n) I.rd
  have hsz : sizeR s.nx s.c s.m s.ln s.col.length = s.sz := rfl
  simp only [St.rd, hsz] at KS
  unfold FillPost
  have hz := St.sz_le hb
  obtain ⟨z, ez⟩ : ∃ z, s.sz = z := ⟨_, rfl⟩
  rw [ez] at ht hz
  simp only [ez] at KS ⊢
  have c12 : w.cell? ⟨rb, 12, none⟩ = some (.slice bt t.length ct) := RowAt.cell I.rd (i := 12) rfl
  have f12 := RowAt.frozen I.rd 12
  obtain ⟨n, hn1, hn2⟩ : ∃ n : Nat, ((p.length : Int) < (z : Int) - (t.length : Int) ∧ n = p.length ∨ (z : Int) - (t.length : Int) ≤ (p.length : Int) ∧ n + t.length = z) ∧ n ≤ p.length := by
    rcases Nat.lt_or_ge p.length (z - t.length) with h | h
    · exact ⟨p.length, .inl ⟨by omega, rfl⟩, Nat.le_refl _⟩
    · exact ⟨z - t.length, .inr ⟨by omega, by omega⟩, h⟩
  have hdrop : p.drop (z - t.length) = p.drop n := by
    rcases hn1 with ⟨h1, h2⟩ | ⟨h1, h2⟩
    · rw [List.drop_of_length_le (by omega), List.drop_of_length_le (by omega)]
    · rw [show z - t.length = n by omega]
  have htake : p.take (z - t.length) = p.take n := by
    rcases hn1 with ⟨h1, h2⟩ | ⟨h1, h2⟩
    · rw [List.take_of_length_le (by omega), List.take_of_length_le (by omega)]
    · rw [show z - t.length = n by omega]
  rw [hdrop, htake]
  have K : ∀ j, Calls Tryz.prog 118 #[.pointer (some ⟨rb, 0, none⟩)] (w.drewN j) fun q w' => q = .returned (.int .i64 (z : Int)) ∧ ∃ n, w' = w.drewN n := fun j =>
    (KS j).mono fun q w' x => ⟨x.1, by obtain ⟨i, hi⟩ := x.2; exact ⟨j + i, by rw [hi]; simp [World.drewN, Nat.add_assoc]⟩⟩
  obtain ⟨i0, hi0, hz0, hz1, hz2⟩ := info_parts infoB8
  have htl : t.length ≤ 400000 := by omega
  have hnz : n ≤ 400000 := by omega
  have hw64 : IntKind.i64.wrap ((z : Int) - (t.length : Int)) = (z : Int) - (t.length : Int) := IntWalk.i64_in _ (by omega)
  have hBs := I.size
  clear KS ez hsz hdrop htake
  rcases hP with ⟨rfl, rfl⟩ | ⟨ad, cp, rfl, hcp, hM, hcell⟩
  · obtain rfl : n = 0 := by simpa using hn2
    have sh := slice_hi none 0 0 0 0 rfl (by omega)
    have sl := slice_lo none 0 0 0 0 rfl (by omega)
    simp only [if_true] at sl
    have hot := I.ot
    unfold OwnB at hot
    have hq : (0 : Int) ≤ (z : Int) - (t.length : Int) := by omega
    have hJ : ∀ j, But w.heap.size (Mine rb vC (.slice bt t.length ct)) w ((w.drewN j).setCell ⟨rb, 12, none⟩ (.slice bt t.length ct)) := fun j => ((But.refl w.heap.size _ w).drewN j).setCell (p := ⟨rb, 12, none⟩) (.inr (.inl rfl)) _
    have JN := fun j => RI.text (w1 := w.drewN j) (x := []) I (by have := I.ot; rw [List.append_nil]; exact this) ⟨rfl, rfl, rfl, Nat.le_refl _, fun _ _ _ => rfl⟩ (.inl rfl)
    clear hn1
    rcases Int.lt_or_le 0 ((z : Int) - (t.length : Int)) with h1 | h1
    all_goals
      try (have h1' : (z : Int) - (t.length : Int) = 0 := by omega)
      go_enter Tryz.func88, Tryz.ntmps88
      go_wp2_with fail
      go_big_quiet (first | (go_at_call 118; exact (K _).mono (fun _ _ h => ⟨h.1, h.2⟩)))
      go_wp2_with fail
      go_region_law ((refine step_append_nil rfl _ _ 24 rfl B 5 i0 1 Tryz.underlying24 hi0 _ _ _ rfl (by exact hot) rfl ?_))
      go_wp2
      go_ret
      exact ⟨_, _, rfl, .inl ⟨rfl, rfl⟩, (JN _).1, hJ _, .inl rfl⟩
  · have sh := slice_hi (some ad) p.length cp (n : Int) n rfl (by omega)
    have sl := slice_lo (some ad) p.length cp (n : Int) n rfl hn2
    obtain ⟨ra, era⟩ : ∃ ra, (if cp = n then some ad else (some ad).map (·.add n)) = ra := ⟨_, rfl⟩
    simp only [era] at sl
    have htk : (p.take n).length = n := by simp; omega
    have hnews : ∀ j u, (u8V (p.take n))[j]? = some u → w.cell? (ad.add j) = some u := by
      intro j u hj
      obtain ⟨h1, rfl⟩ := u8V_at hj
      rw [htk] at h1
      rw [hcell j (by omega)]
      simp [bAt, List.getD_eq_getElem?_getD, h1]
    have hot := I.ot
    unfold OwnB at hot
    rcases hn1 with ⟨h1, h2⟩ | ⟨h1, h2⟩
    · subst h2
      go_enter Tryz.func88, Tryz.ntmps88
      go_wp2_with fail
      go_big_quiet (first | (go_at_call 118; exact (K _).mono (fun _ _ h => ⟨h.1, h.2⟩)))
      go_wp2_with fail
      go_region_law ((refine step_append_at rfl _ _ 24 rfl B 5 i0 (.int .u8 0) 1 1 Tryz.underlying24 hi0 hz0 hz1 hz2 rfl (by decide) _ _ _ rfl (by exact hot) ad p.length cp (u8V (p.take p.length)) rfl (by rw [u8V_length, htk]; omega) (by exact hnews) (u8V_one _) (by unfold maxLen; omega) (by omega) (by exact hBs) ?_; intro v2 w2 hown2 hgrow2 hblk2; have ow := own_app hown2; obtain ⟨b2, c2, rfl, hc2⟩ := ow.slice; obtain ⟨J, hJ, x12, y12⟩ := RI.text ((I.drewN _).drew) ow hgrow2 hblk2))
      go_wp2
      go_ret
      have e2 : (t ++ p.take p.length).length = t.length + p.length := by rw [List.length_append, htk]
      rw [e2] at J hJ hblk2
      have hJ' : But w.heap.size (Mine rb vC (.slice bt t.length ct)) w _ := ((But.refl w.heap.size _ w).drewN (nq + 1)).trans hJ
      have hpt := Pt.cut_later hcp hM hcell hn2 hJ' hblk2
      rw [era, Nat.sub_self] at hpt
      exact ⟨_, _, rfl, hpt, J, hJ', by rcases hblk2 with e | e; exact .inl e; exact .inr ⟨_, e, Nat.le_refl _⟩⟩
    · have h3 : (z : Int) - (t.length : Int) = (n : Int) := by omega
      have h1' : (n : Int) ≤ (p.length : Int) := by omega
      clear h1 h2
      go_enter Tryz.func88, Tryz.ntmps88
      go_wp2_with fail
      go_big_quiet (first | (go_at_call 118; exact (K _).mono (fun _ _ h => ⟨h.1, h.2⟩)))
      go_wp2_with fail
      go_region_law ((refine step_append_at rfl _ _ 24 rfl B 5 i0 (.int .u8 0) 1 1 Tryz.underlying24 hi0 hz0 hz1 hz2 rfl (by decide) _ _ _ rfl (by exact hot) ad n cp (u8V (p.take n)) rfl (by rw [u8V_length, htk]; omega) (by exact hnews) (u8V_one _) (by unfold maxLen; omega) (by omega) (by exact hBs) ?_; intro v2 w2 hown2 hgrow2 hblk2; have ow := own_app hown2; obtain ⟨b2, c2, rfl, hc2⟩ := ow.slice; obtain ⟨J, hJ, x12, y12⟩ := RI.text ((I.drewN _).drew) ow hgrow2 hblk2))
      go_wp2
      go_ret
      have e2 : (t ++ p.take n).length = t.length + n := by rw [List.length_append, htk]
      rw [e2] at J hJ hblk2
      have hJ' : But w.heap.size (Mine rb vC (.slice bt t.length ct)) w _ := ((But.refl w.heap.size _ w).drewN (nq + 1)).trans hJ
      have hpt := Pt.cut_later hcp hM hcell hn2 hJ' hblk2
      rw [era] at hpt
      exact ⟨_, _, rfl, hpt, J, hJ', by rcases hblk2 with e | e; exact .inl e; exact .inr ⟨_, e, Nat.le_refl _⟩⟩
end
end Go.Proofs.YtlghjjennhpjeaaGreatDoor

/-
  How the program reads a shard: the next piece (moveOn).
-/
namespace Go.Proofs.YtlghjjennhpjeaaGreatDoor
open Go.RowKit Go.Deep

theorem OwnB.none {B : Nat} {w : World} {bt : Option Addr} {n ct : Nat} {l : List UInt8} (h : OwnB B w (.slice bt n ct) l) : OwnB B w (.slice bt 0 ct) [] := by
  unfold OwnB at *
  refine ⟨by simp [u8V], ?_⟩
  rcases h.2 with ⟨e, h0⟩ | ⟨g, c, cur, e, hg, hh, hc, hm, hs, _⟩
  · cases e
    exact .inl ⟨rfl, rfl⟩
  · cases e
    exact .inr ⟨g, ct, cur, rfl, hg, hh, Nat.zero_le _, hm, hs, by simp [u8V]⟩
/-- A cell of the Reading itself is turned. -/
theorem RI.put {B rb i : Nat} {w : World} {s s' : St} {t t' : List UInt8} {vN vS vC vT vT' u : Value} (I : RI B w rb s t vN vS vC vT) (h : (s.rd vN vS vC vT .nilIface).cells.set i u = (s'.rd vN vS vC vT' .nilIface).cells) (h1 : s'.ns = s.ns) (h2 : s'.zs = s.zs) (h3 : s'.col = s.col) (hT : OwnB B w vT' t') (hk : vT'.ownBlock = vT.ownBlock) : RI B (w.setCell ⟨rb, i, none⟩ u) rb s' t' vN vS vC vT' := by
  refine ⟨?_, ?_, ?_, ?_, ?_, ?_, ?_⟩
  · have := RowAt.set I.rd i u
    unfold RdAt
    rw [← h]
    exact this
  · rw [h1]; exact owns_set I.on (owns_rd I.on I.rd (by decide))
  · rw [h2]; exact owns_set I.os (owns_rd I.os I.rd (by decide))
  · rw [h3]; exact owns_set I.oc (owns_rd I.oc I.rd (by decide))
  · exact owns_set hT (owns_rd hT I.rd (by decide))
  · intro g hg1 hg2
    exact I.ap g hg1 (hk ▸ hg2)
  · have := I.size; simpa using this
section
variable (B rb : Nat) (s : St) (t : List UInt8) (vN vS vC vT : Value) (hb : Bd s) (ht : t.length ≤ 400000) (w : World) (I : RI B w rb s t vN vS vC vT)
def MovePost (B : Nat) (w : World) (rb : Nat) (s : St) (t : List UInt8) (vN vS vC vT : Value) (q : Ending) (w' : World) : Prop :=
  q = .returned (.tuple #[]) ∧ ∃ vT', RI B w' rb (moveP s t) [] vN vS vC vT' ∧ But w.heap.size (· = rb) w w' ∧ vT'.ownBlock = vT.ownBlock
set_option maxHeartbeats 4000000 in
set_option maxRecDepth 100000 in
include hb ht I in
theorem moveOn_any : Calls Tryz.prog 90 #[.pointer (some ⟨rb, 0, none⟩)] w fun q w' => MovePost B w rb s t vN vS vC vT q w' := by
  obtain ⟨bc, cc, eC, hcc⟩ := I.oc.slice
  obtain ⟨bt, ct, eT, hct⟩ := I.ot.slice
  subst eT
  subst eC
  have hpl := hb.pl
  have hln := hb.ln
  have c6 := RowAt.cell I.rd (i := 6) rfl
  have c8 := RowAt.cell I.rd (i := 8) rfl
  have c10 := RowAt.cell I.rd (i := 10) rfl
  have c11 := RowAt.cell I.rd (i := 11) rfl
  have c12 := RowAt.cell I.rd (i := 12) rfl
  have f10 := RowAt.frozen I.rd 10
  have f11 := RowAt.frozen I.rd 11
  have f12 := RowAt.frozen I.rd 12
  simp only [St.rd] at c6 c8 c10 c11 c12
  have sh := slice_hi bt t.length ct 0 0 rfl (by omega)
  have hnx := hb.nx
  obtain ⟨nx, enx⟩ : ∃ nx, s.nx = nx := ⟨_, rfl⟩
  obtain ⟨pl, epl⟩ : ∃ pl, s.pl = pl := ⟨_, rfl⟩
  obtain ⟨ln, eln⟩ : ∃ ln, s.ln = ln := ⟨_, rfl⟩
  have hwr : IntKind.i64.wrap ((pl : Int) + (t.length : Int)) = (pl : Int) + (t.length : Int) := IntWalk.i64_in _ (by omega)
  rw [enx] at c10 hnx
  rw [epl] at c11 hpl
  rw [eln] at c8 hln
  have I1 : RI B (w.setCell ⟨rb, 11, none⟩ (.int .i64 ((pl : Int) + (t.length : Int)))).drew rb { s with pl := pl + t.length } t vN vS _ _ := (I.put (s' := { s with pl := pl + t.length }) (t' := t) rfl rfl rfl rfl I.ot rfl).drew
  have hB1 : But w.heap.size (· = rb) w (w.setCell ⟨rb, 11, none⟩ (.int .i64 ((pl : Int) + (t.length : Int)))).drew := ((But.refl w.heap.size (· = rb) w).setCell (p := ⟨rb, 11, none⟩) (.inr rfl) _).drew
  have HM : Hid ((moveP s t) = { s with pl := pl + t.length, nx := nextP s }) := by show _ = _; unfold moveP; rw [epl]
  go_enter Tryz.func90, Tryz.ntmps90
  go_wp2_with fail
  refine wp_region_quiet_tail 12 mixed (by kernel_rfl) ?_
  simp only [List.take_succ_cons, List.take_zero, List.drop_succ_cons, List.drop_zero]
  repeat (first | go_big_quiet_skip | (go_big_quiet_want; go_big_quiet_op; go_big_quiet_on))
  refine wpQuiet_nil ?_
  go_upto_region 1 with (fail)
  clear c6 c8 c10 c11 c12 f10 f11 f12 I
  generalize (w.setCell ⟨rb, 11, none⟩ (.int .i64 ((pl : Int) + (t.length : Int)))).drew = w1 at I1 hB1 ⊢
  have I2 : RI B _ rb { s with pl := pl + t.length } [] vN vS _ _ := I1.put (i := 12) (u := .slice bt 0 ct) (s' := { s with pl := pl + t.length }) (t' := []) (vT' := .slice bt 0 ct) rfl rfl rfl rfl I1.ot.none (by cases bt <;> rfl)
  have hB2 := hB1.setCell (p := ⟨rb, 12, none⟩) (.inr rfl) (.slice bt 0 ct)
  have c12 := RowAt.cell I1.rd (i := 12) rfl
  have f12 := RowAt.frozen I1.rd 12
  simp only [St.rd] at c12
  go_upto_region 3 with (fail)
  clear c12 f12 I1 hB1
  generalize w1.setCell ⟨rb, 12, none⟩ (.slice bt 0 ct) = w2 at I2 hB2 ⊢
  have c6 := RowAt.cell I2.rd (i := 6) rfl
  have c8 := RowAt.cell I2.rd (i := 8) rfl
  have c10 := RowAt.cell I2.rd (i := 10) rfl
  have f10 := RowAt.frozen I2.rd 10
  simp only [St.rd] at c6 c8 c10
  rw [enx] at c10
  rw [eln] at c8
  have J0 : ∀ (x j : Nat), RI B ((w2.drewN j).setCell ⟨rb, 10, none⟩ (.int .i64 (x : Int))) rb { s with pl := pl + t.length, nx := x } [] vN vS _ _ := fun x j => (I2.drewN j).put (s' := { s with pl := pl + t.length, nx := x }) (t' := []) (vT' := .slice bt 0 ct) rfl rfl rfl rfl I2.ot rfl
  have hBB : ∀ (j : Nat) (u : Value), But w.heap.size (· = rb) w ((w2.drewN j).setCell ⟨rb, 10, none⟩ u) := fun j u => (hB2.drewN j).setCell (p := ⟨rb, 10, none⟩) (.inr rfl) u
  by_cases q0 : nx = 0
  · have HX : Hid (nextP s = 1) := by show _ = _; unfold nextP; rw [enx, if_pos q0]
    subst q0
    go_wp2
    go_end0
    refine ⟨rfl, .slice bt 0 ct, ?_, hBB 0 _, by cases bt <;> rfl⟩
    rw [HM.out, HX.out]
    exact J0 1 0
  · have q0' : ((nx : Int) == 0) = false := by simp; omega
    by_cases q3 : nx = 3
    · have HX : Hid (nextP s = 4) := by show _ = _; unfold nextP; rw [enx, if_neg q0, if_pos q3]
      subst q3
      go_wp2
      go_end0
      refine ⟨rfl, .slice bt 0 ct, ?_, hBB 0 _, by cases bt <;> rfl⟩
      rw [HM.out, HX.out]
      exact J0 4 0
    · have q3' : ((nx : Int) == 3) = false := by simp; omega
      by_cases q5 : s.col.length < ln
      · have HX : Hid (nextP s = 2) := by show _ = _; unfold nextP; rw [enx, eln, if_neg q0, if_neg q3, if_pos q5]
        go_wp2_with fail
        go_big_quiet (fail)
        go_wp2
        go_end0
        refine ⟨rfl, .slice bt 0 ct, ?_, hBB _ _, by cases bt <;> rfl⟩
        rw [HM.out, HX.out]
        exact J0 2 _
      · have HX : Hid (nextP s = 3) := by show _ = _; unfold nextP; rw [enx, eln, if_neg q0, if_neg q3, if_neg q5]
        go_wp2_with fail
        go_big_quiet (fail)
        go_wp2
        go_end0
        refine ⟨rfl, .slice bt 0 ct, ?_, hBB _ _, by cases bt <;> rfl⟩
        rw [HM.out, HX.out]
        exact J0 3 _
end
end Go.Proofs.YtlghjjennhpjeaaGreatDoor

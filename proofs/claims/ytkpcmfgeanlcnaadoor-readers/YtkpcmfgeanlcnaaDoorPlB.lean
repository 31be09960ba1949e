/-
  How the program reads a shard, in plain words: piece by piece; the head and the manifest are the document's.
-/
import Derived.Test.YtkpcmfgeanlcnaaDoorPlA
namespace Go.Proofs.YtkpcmfgeanlcnaaDoor

/-- What of a shard has been read. -/
structure St where
  k : Nat
  n : Nat
  i : Nat
  c : Nat
  ns : List (List UInt8)
  zs : List Nat
  col : List UInt8
  m : Nat
  ln : Nat
  tt : Nat
  nx : Nat
  pl : Nat
def St.sz (s : St) : Nat := sizeR s.nx s.c s.m s.ln s.col.length
/-- What is wrong with a piece that bears a sum. -/
def sealP (s : St) (t : List UInt8) : Option (Nat × Nat) :=
  if t.length < s.sz then some (4, s.pl + t.length)
  else if sumOf (part t 0 (t.length - 8)) = le (part t (t.length - 8) 8) 0 8 then none else some (6, s.pl + (t.length - 8))
def numsP (t : List UInt8) : List (Nat × Nat × Int × Int) := [(6, le t 6 1, 1, 128), (7, le t 7 1, (le t 6 1 : Int), 128), (8, le t 8 1, 0, (le t 7 1 : Int) - 1), (9, le t 9 1, 0, 0), (10, le t 10 4, 1, 65536), (14, le t 14 4, 4, 300000), (18, le t 18 4, 0, 65536), (22, le t 22 2, 0, 0)]
def headP (s : St) (t : List UInt8) : Except (Nat × Nat) St :=
  match begE t magic1 with
  | some i => .error (5, s.pl + i)
  | none => match sealP s t with
    | some e => .error e
    | none => match numsE (numsP t) with
      | some p => .error (1, p)
      | none => .ok { s with k := le t 6 1, n := le t 7 1, i := le t 8 1, c := le t 10 4, m := le t 14 4, ln := le t 18 4 }
def manP (s : St) (t : List UInt8) : Except (Nat × Nat) St :=
  match sealP s t with
  | some e => .error e
  | none => match listP (part t 0 (t.length - 8)) with
    | .error p => .error (7, s.pl + p)
    | .ok (ns, zs) => if s.ln = lenC s.k zs.sum then .ok { s with ns := ns, zs := zs, tt := zs.sum, col := [] } else .error (7, 18)
/-- The first byte from a place on that is not 0. -/
def padP (u : List UInt8) (F : Int) : Option Nat := (List.range u.length).find? fun m => decide (F ≤ (m : Int) ∧ bAt u m ≠ 0)
def frameP (s : St) (t : List UInt8) : Except (Nat × Nat) St :=
  match sealP s t with
  | some e => .error e
  | none => match padP (part t 0 (t.length - 8)) (usedI s.k s.i s.tt - (s.col.length : Int)) with
    | some m => .error (8, s.pl + m)
    | none => .ok { s with col := s.col ++ part t 0 (t.length - 8) }
def tailP (s : St) (t : List UInt8) : Except (Nat × Nat) St :=
  match begE t magic2 with
  | some i => .error (5, s.pl + i)
  | none => if t.length < s.sz then .error (4, s.pl + t.length) else .ok s
/-- A piece is read. -/
def readP (s : St) (t : List UInt8) : Except (Nat × Nat) St :=
  if s.nx = 0 then headP s t else if s.nx = 1 then manP s t else if s.nx = 2 then frameP s t else tailP s t
/-- .. and the next begins. -/
def nextP (s : St) : Nat := if s.nx = 0 then 1 else if s.nx = 3 then 4 else if s.col.length < s.ln then 2 else 3
def moveP (s : St) (t : List UInt8) : St := { s with pl := s.pl + t.length, nx := nextP s }

structure Head (s : St) (Z : List UInt8) : Prop where
  ok : headE Z = none
  k : s.k = le Z 6 1
  n : s.n = le Z 7 1
  i : s.i = le Z 8 1
  c : s.c = le Z 10 4
  m : s.m = le Z 14 4
  ln : s.ln = le Z 18 4
structure Man (s : St) (Z : List UInt8) : Prop where
  head : Head s Z
  names : namesE Z s.m = .ok (s.ns, s.zs)
  long : s.ln = lengthS s.k s.zs
  tt : s.tt = s.zs.sum
  small : s.zs.sum ≤ 65536
/-- What the frames from here on come to. -/
def frE (s : St) (Z : List UInt8) (f a : Nat) (col : List UInt8) : Except (Nat × Nat) (List UInt8 × Nat) :=
  framesE Z (decide (s.i < s.k)) s.c s.ln ((totalS s.zs : Int) - ((s.i * lengthS s.k s.zs : Nat) : Int)) f a col
/-- These bytes begin with what has been read. -/
inductive Good (s : St) (Z : List UInt8) : Prop
  | head (h0 : s.nx = 0) (h1 : s.pl = 0) (h2 : s.col = [])
  | man (h0 : s.nx = 1) (h1 : s.pl = 32) (h2 : s.col = []) (hh : Head s Z)
  | frame (h0 : s.nx = 2) (hm : Man s Z) (h1 : s.col.length < s.ln) (f : Nat) (hf : s.ln ≤ f + s.col.length) (he : frE s Z s.ln (32 + s.m + 8) [] = frE s Z f s.pl s.col)
  | tail (h0 : s.nx = 3) (hm : Man s Z) (h1 : s.ln = s.col.length) (he : frE s Z s.ln (32 + s.m + 8) [] = .ok (s.col, s.pl))
  | done (h0 : s.nx = 4) (hm : Man s Z) (h1 : s.ln = s.col.length) (a : Nat) (ha : s.pl = a + 4) (he : frE s Z s.ln (32 + s.m + 8) [] = .ok (s.col, a)) (hx : fixE Z a magic2 = none)

theorem parse_of_head {Z : List UInt8} {e : Nat × Nat} (h : headE Z = some e) : parseE Z = .error e := by
  unfold parseE; rw [h]
theorem parse_of_names {s : St} {Z : List UInt8} {e : Nat × Nat} (h : Head s Z) (hn : namesE Z s.m = .error e) : parseE Z = .error e := by
  unfold parseE; rw [h.ok]; simp only; rw [← h.m, hn]
theorem parse_of_long {s : St} {Z : List UInt8} {ns : List (List UInt8)} {zs : List Nat} (h : Head s Z) (hn : namesE Z s.m = .ok (ns, zs)) (hl : ¬ s.ln = lengthS s.k zs) : parseE Z = .error (7, 18) := by
  unfold parseE; rw [h.ok]; simp only; rw [← h.m, hn]; simp only; rw [← h.ln, ← h.k, if_neg hl]
theorem parse_of_frames {s : St} {Z : List UInt8} {e : Nat × Nat} (h : Man s Z) (hf : frE s Z s.ln (32 + s.m + 8) [] = .error e) : parseE Z = .error e := by
  have hh := h.head
  unfold parseE; rw [hh.ok]; simp only; rw [← hh.m, h.names]; simp only; rw [← hh.ln, ← hh.k, if_pos h.long]
  unfold frE at hf
  rw [← hh.i, ← hh.c, hf]
theorem parse_of_tail {s : St} {Z : List UInt8} {e : Nat × Nat} {col : List UInt8} {a : Nat} (h : Man s Z) (hf : frE s Z s.ln (32 + s.m + 8) [] = .ok (col, a)) (ht : orE (fixE Z a magic2) (mustE (decide (Z.length ≤ a + 4)) 9 (a + 4)) = some e) : parseE Z = .error e := by
  have hh := h.head
  unfold parseE; rw [hh.ok]; simp only; rw [← hh.m, h.names]; simp only; rw [← hh.ln, ← hh.k, if_pos h.long]
  unfold frE at hf
  rw [← hh.i, ← hh.c, hf]
  simp only
  rw [ht]
theorem parse_of_all {s : St} {Z : List UInt8} {col : List UInt8} {a : Nat} (h : Man s Z) (hf : frE s Z s.ln (32 + s.m + 8) [] = .ok (col, a)) (ht : orE (fixE Z a magic2) (mustE (decide (Z.length ≤ a + 4)) 9 (a + 4)) = none) : parseE Z = .ok ⟨s.k, s.n, s.i, s.c, s.ns, s.zs, col⟩ := by
  have hh := h.head
  unfold parseE; rw [hh.ok]; simp only; rw [← hh.m, h.names]; simp only; rw [← hh.ln, ← hh.k, if_pos h.long]
  unfold frE at hf
  rw [← hh.i, ← hh.c, hf]
  simp only
  rw [ht, ← hh.n]

/-- The seal of a piece is the document's. -/
theorem seal_P {s : St} {Z t : List UInt8} {q : Nat} (hA : At Z s.pl t) (hz : s.sz = q + 8) (ht : t.length ≤ s.sz) {r : Option (Nat × Nat)} (h : sealP s t = r) (h4 : ∀ p, r = some (4, p) → Z.length = s.pl + t.length) : sealE Z s.pl q = r ∧ (r = none → t.length = q + 8) := by
  unfold sealP at h
  by_cases q0 : t.length < s.sz
  · rw [if_pos q0] at h
    have := h4 _ h.symm
    refine ⟨?_, fun e => by rw [e] at h; cases h⟩
    rw [seal_short (by omega), ← h, this]
  · rw [if_neg q0] at h
    have hl : t.length = q + 8 := by omega
    refine ⟨?_, fun _ => hl⟩
    rw [hA.seal hl, ← h, hl, Nat.add_sub_cancel]
theorem sz0 {s : St} (h : s.nx = 0) : s.sz = 24 + 8 := by unfold St.sz sizeR; rw [if_pos h]
theorem sz1 {s : St} (h : s.nx = 1) : s.sz = s.m + 8 := by unfold St.sz sizeR; rw [if_neg (by omega), if_pos h]
theorem sz2 {s : St} (h : s.nx = 2) : s.sz = min s.c (s.ln - s.col.length) + 8 := by unfold St.sz sizeR; rw [if_neg (by omega), if_neg (by omega), if_pos h]
theorem sz3 {s : St} (h : s.nx = 3) : s.sz = 4 := by unfold St.sz sizeR; rw [if_neg (by omega), if_neg (by omega), if_neg (by omega)]
theorem beg_short {t : List UInt8} {Z : List UInt8} {a n : Nat} {ws : List UInt8} (hA : At Z a t) (hb : begE t ws = none) (hs : sealE Z a n = some (4, Z.length)) (hz : Z.length = a + t.length) : orE (fixE Z a ws) (sealE Z a n) = some (4, Z.length) := by
  by_cases q : t.length < ws.length
  · rw [hA.fix_short hb q hz]; rfl
  · rw [hA.fix_none hb (by omega)]; exact hs

theorem head_P {s : St} {Z t : List UInt8} (h0 : s.nx = 0) (h1 : s.pl = 0) (h2 : s.col = []) (hA : At Z s.pl t) (ht : t.length ≤ s.sz) :
    (∀ e, headP s t = .error e → (e.1 = 4 → Z.length = s.pl + t.length) → headE Z = some e) ∧ (∀ s', headP s t = .ok s' → t.length = 32 ∧ Head s' Z ∧ s'.col = [] ∧ s'.nx = 0 ∧ s'.pl = 0) := by
  have hz := sz0 h0
  unfold headP
  cases hb : begE t magic1 with
  | some i =>
    refine ⟨fun e he _ => ?_, fun s' he => by cases he⟩
    cases he
    unfold headE
    rw [h1] at hA
    rw [hA.fix_some hb, h1]; rfl
  | none =>
    simp only
    cases hs : sealP s t with
    | some x =>
      refine ⟨fun e he h4 => ?_, fun s' he => by cases he⟩
      cases he
      obtain ⟨h5, _⟩ := seal_P hA hz ht hs (fun p hp => by cases hp; exact h4 rfl)
      rw [h1] at hA h5
      unfold headE
      by_cases q : t.length < 32
      · have hx : x = (4, s.pl + t.length) := by unfold sealP at hs; rw [if_pos (by omega)] at hs; cases hs; rfl
        have hZ := h4 (by rw [hx])
        rw [h1, Nat.zero_add] at hZ
        rw [beg_short hA hb (by rw [h5, hx, hZ, h1, Nat.zero_add]) (by omega)]
        rw [hx, hZ, h1, Nat.zero_add]
      · rw [hA.fix_none hb (by simp [magic1]; omega)]
        simp only [orE]
        rw [h5]
    | none =>
      obtain ⟨h5, h6⟩ := seal_P hA hz ht hs (fun p hp => by cases hp)
      have hl := h6 rfl
      rw [h1] at hA h5
      have hN : ∀ j n, j + n ≤ 32 → le Z j n = le t j n := fun j n hj => by have := hA.num n j (by omega); rw [Nat.zero_add] at this; exact this
      have hH : headE Z = (numsE (numsP t)).map (fun x => (1, x)) := by
        unfold headE
        rw [hA.fix_none hb (by simp [magic1]; omega)]
        simp only [orE]
        rw [h5]
        simp only
        rw [headR_nums, hN 6 1 (by omega), hN 7 1 (by omega), hN 8 1 (by omega), hN 9 1 (by omega), hN 10 4 (by omega), hN 14 4 (by omega), hN 18 4 (by omega), hN 22 2 (by omega)]
        rfl
      simp only
      cases hn : numsE (numsP t) with
      | some p =>
        refine ⟨fun e he _ => ?_, fun s' he => by cases he⟩
        cases he
        rw [hH, hn]; rfl
      | none =>
        refine ⟨fun e he => (by cases he), fun s' he => ?_⟩
        cases he
        exact ⟨hl, ⟨by rw [hH, hn]; rfl, (hN 6 1 (by omega)).symm, (hN 7 1 (by omega)).symm, (hN 8 1 (by omega)).symm, (hN 10 4 (by omega)).symm, (hN 14 4 (by omega)).symm, (hN 18 4 (by omega)).symm⟩, h2, h0, h1⟩

theorem lengthS_small {k : Nat} {zs : List Nat} (h : zs.sum ≤ 65536) : lengthS k zs = lenC k zs.sum := by
  unfold lengthS lenC totalS; rw [if_pos h]
theorem loopP_sum (u : List UInt8) : ∀ (c a : Nat) (ns : List (List UInt8)) (zs : List Nat) {ns' : List (List UInt8)} {zs' : List Nat}, zs.sum ≤ 65536 → loopP u c a ns zs = .ok (ns', zs') → zs'.sum ≤ 65536
  | 0, a, ns, zs, ns', zs', hz, h => by
    unfold loopP at h
    split at h
    · cases h
    · cases h; exact hz
  | c + 1, a, ns, zs, ns', zs', hz, h => by
    unfold loopP at h
    cases hb : blob1 u a ns zs with
    | error p => rw [hb] at h; cases h
    | ok x =>
      obtain ⟨nm, z⟩ := x
      rw [hb] at h
      refine loopP_sum u c _ _ _ ?_ h
      unfold blob1 at hb
      split at hb
      · cases hb
      · split at hb
        · cases hb
        · split at hb
          · cases hb
          · cases hb; simp; omega
theorem man_P {s : St} {Z t : List UInt8} (h0 : s.nx = 1) (h1 : s.pl = 32) (hh : Head s Z) (hA : At Z s.pl t) (ht : t.length ≤ s.sz) :
    (∀ e, manP s t = .error e → (e.1 = 4 → Z.length = s.pl + t.length) → parseE Z = .error e) ∧ (∀ s', manP s t = .ok s' → t.length = s.m + 8 ∧ Man s' Z ∧ s'.col = [] ∧ s'.nx = 1 ∧ s'.pl = 32 ∧ s'.m = s.m) := by
  have hz := sz1 h0
  have hr := hh.ok
  have hb : 4 ≤ s.m := by
    have h2 := hh.ok
    unfold headE at h2
    split at h2
    · cases h2
    · have := headR_none h2
      rw [hh.m]; omega
  unfold manP
  cases hs : sealP s t with
  | some x =>
    refine ⟨fun e he h4 => ?_, fun s' he => by cases he⟩
    cases he
    obtain ⟨h5, _⟩ := seal_P hA hz ht hs (fun p hp => by cases hp; exact h4 rfl)
    rw [h1] at h5
    exact parse_of_names hh (by unfold namesE; rw [h5])
  | none =>
    obtain ⟨h5, h6⟩ := seal_P hA hz ht hs (fun p hp => by cases hp)
    have hl := h6 rfl
    have hA2 := hA
    rw [h1] at hA h5
    simp only
    rw [hl, Nat.add_sub_cancel]
    have hU : At Z 32 (part t 0 s.m) := by have := hA.trans (At.of_part t (j := 0) (n := s.m) (by omega)); exact this
    have hUl : (part t 0 s.m).length = s.m := part_length (by omega)
    have hnm : namesE Z s.m = upE 32 (listP (part t 0 s.m)) := by
      unfold namesE listP
      rw [h5]
      simp only
      have e4 : le Z 32 4 = le (part t 0 s.m) 0 4 := hU.num 4 0 (by omega)
      rw [e4]
      by_cases q : 1000 < le (part t 0 s.m) 0 4
      · rw [if_pos q, if_pos q]; rfl
      · rw [if_neg q, if_neg q]
        exact loop_blobs hU hUl _ 4 [] [] (by omega) (by simp)
    cases hL : listP (part t 0 s.m) with
    | error p =>
      refine ⟨fun e he _ => ?_, fun s' he => by cases he⟩
      cases he
      refine parse_of_names hh ?_
      rw [hnm, hL, h1]; rfl
    | ok x =>
      obtain ⟨ns, zs⟩ := x
      simp only
      have hsm : zs.sum ≤ 65536 := by
        unfold listP at hL
        split at hL
        · cases hL
        · exact loopP_sum _ _ _ _ _ (by simp) hL
      have hnm2 : namesE Z s.m = .ok (ns, zs) := by rw [hnm, hL]; rfl
      by_cases q : s.ln = lenC s.k zs.sum
      · rw [if_pos q]
        refine ⟨fun e he => (by cases he), fun s' he => ?_⟩
        cases he
        exact ⟨trivial, ⟨⟨hh.ok, hh.k, hh.n, hh.i, hh.c, hh.m, hh.ln⟩, hnm2, by rw [lengthS_small hsm]; exact q, rfl, hsm⟩, rfl, h0, h1, rfl⟩
      · rw [if_neg q]
        refine ⟨fun e he _ => ?_, fun s' he => by cases he⟩
        cases he
        exact parse_of_long hh hnm2 (by rw [lengthS_small hsm]; exact q)
end Go.Proofs.YtkpcmfgeanlcnaaDoor

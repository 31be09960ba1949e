/-
  Two sorted rows made one, in plain words.
-/
import Derived.Test.YtkpcmfgeanlcnaaDoorHpC
import Derived.Test.YtkpcmfgeanlcnaaDoorEnC
import Derived.Test.YtkpcmfgeanlcnaaDoorEnD
namespace Go.Hp

theorem Rearr.rot {n p q : Nat} (g : Nat → Ent) (hp : p ≤ q) (hq : q < n) : Rearr n g (fun x => if x = p then g q else if p < x ∧ x ≤ q then g (x - 1) else g x) := by
  refine ⟨fun x => if x = p then q else if p < x ∧ x ≤ q then x - 1 else x, fun x => if x = q then p else if p ≤ x ∧ x < q then x + 1 else x, fun i hi => ?_, fun i hi => ?_⟩
  · dsimp only
    refine ⟨by split <;> (try split) <;> omega, by split <;> (try split) <;> omega, ?_, ?_⟩
    · by_cases h1 : i = p
      · rw [if_pos h1, if_pos rfl, h1]
      · rw [if_neg h1]
        by_cases h2 : p < i ∧ i ≤ q
        · rw [if_pos h2, if_neg (by omega), if_pos (by omega)]; omega
        · rw [if_neg h2, if_neg (by omega), if_neg (by omega)]
    · by_cases h1 : i = q
      · rw [if_pos h1, if_pos rfl, h1]
      · rw [if_neg h1]
        by_cases h2 : p ≤ i ∧ i < q
        · rw [if_pos h2, if_neg (by omega), if_pos (by omega)]; omega
        · rw [if_neg h2, if_neg (by omega), if_neg (by omega)]
  · dsimp only
    split
    · rfl
    · split <;> rfl

/-- Rows one behind the other, each put in order. -/
theorem Rearr.both {h m : Nat} {f L R : Nat → Ent} (a : Rearr h f L) (b : Rearr m (fun i => f (h + i)) R) : Rearr (h + m) f (fun x => if x < h then L x else R (x - h)) := by
  obtain ⟨s, t, h1, h2⟩ := a
  obtain ⟨s', t', h3, h4⟩ := b
  refine ⟨fun x => if x < h then s x else h + s' (x - h), fun x => if x < h then t x else h + t' (x - h), fun i hi => ?_, fun i hi => ?_⟩
  · dsimp only
    by_cases hh : i < h
    · obtain ⟨q1, q2, q3, q4⟩ := h1 i hh
      rw [if_pos hh, if_pos hh, if_pos q1, if_pos q2]
      exact ⟨by omega, by omega, q3, q4⟩
    · obtain ⟨q1, q2, q3, q4⟩ := h3 (i - h) (by omega)
      rw [if_neg hh, if_neg hh, if_neg (by omega), if_neg (by omega), Nat.add_sub_cancel_left, Nat.add_sub_cancel_left, q3, q4]
      exact ⟨by omega, by omega, by omega, by omega⟩
  · dsimp only
    by_cases hh : i < h
    · rw [if_pos hh, if_pos hh, h2 i hh]
    · rw [if_neg hh, if_neg hh, h4 (i - h) (by omega)]

def Srt (n : Nat) (f : Nat → Ent) : Prop := ∀ i, i + 1 < n → le (f i).k (f (i + 1)).k
theorem Srt.far {n : Nat} {f : Nat → Ent} (h : Srt n f) : ∀ d i, i + d < n → le (f i).k (f (i + d)).k
  | 0, i, _ => le_refl _
  | d + 1, i, hi => le_trans (h.far d i (by omega)) (h (i + d) (by omega))
theorem Srt.le {n : Nat} {f : Nat → Ent} (h : Srt n f) {i j : Nat} (hij : i ≤ j) (hj : j < n) : Hp.le (f i).k (f j).k := by
  have := h.far (j - i) i (by omega)
  rwa [show i + (j - i) = j by omega] at this

def snoc (out : Nat → Ent) (p : Nat) (e : Ent) : Nat → Ent := fun x => if x = p then e else out x
/-- Merged so far: i of the first row, j of the second. -/
structure MS (h m : Nat) (f L R : Nat → Ent) (i j : Nat) (out : Nat → Ent) : Prop where
  re : Rearr (h + m) f (fun x => if x < i + j then out x else if x < j + h then L (x - j) else R (x - h))
  so : Srt (i + j) out
  lo : 0 < i + j → ∀ x, i ≤ x → x < h → le (out (i + j - 1)).k (L x).k
  hi : 0 < i + j → ∀ x, j ≤ x → x < m → le (out (i + j - 1)).k (R x).k
theorem MS.start {h m : Nat} {f L R : Nat → Ent} (a : Rearr h f L) (b : Rearr m (fun i => f (h + i)) R) : MS h m f L R 0 0 f :=
  ⟨(a.both b).congr fun x hx => by rw [if_neg (show ¬ x < 0 + 0 by omega)]; simp, fun i hi => absurd hi (by omega), fun h0 => absurd h0 (by omega), fun h0 => absurd h0 (by omega)⟩
theorem Srt.snoc {n : Nat} {out : Nat → Ent} {e : Ent} (h : Srt n out) (hl : 0 < n → Hp.le (out (n - 1)).k e.k) : Srt (n + 1) (snoc out n e) := fun i hi => by
  unfold Hp.snoc
  rw [if_neg (by omega)]
  by_cases e' : i + 1 = n
  · rw [if_pos e']
    have := hl (by omega)
    rwa [show n - 1 = i by omega] at this
  · rw [if_neg e']
    exact h i (by omega)
theorem MS.left {h m : Nat} {f L R : Nat → Ent} {i j : Nat} {out : Nat → Ent} (M : MS h m f L R i j out) (hi : i < h) (hj : j ≤ m) (hl : Srt h L) (hr : Srt m R) (hc : j < m → Hp.le (L i).k (R j).k) : MS h m f L R (i + 1) j (snoc out (i + j) (L i)) := by
  have e : i + 1 + j = i + j + 1 := by omega
  refine ⟨M.re.congr fun x hx => ?_, ?_, ?_, ?_⟩
  · unfold snoc
    by_cases h1 : x < i + j
    · rw [if_pos h1, if_pos (by omega), if_neg (by omega)]
    · rw [if_neg h1]
      by_cases h2 : x = i + j
      · subst h2
        rw [if_pos (by omega), if_pos (by omega), if_pos rfl, Nat.add_sub_cancel]
      · rw [if_neg (show ¬ x < i + 1 + j by omega)]
  · rw [e]
    exact M.so.snoc fun h0 => M.lo h0 i (Nat.le_refl _) hi
  · intro _ x hx hxh
    unfold snoc
    rw [if_pos (by omega)]
    exact hl.le (by omega) hxh
  · intro _ x hx hxm
    unfold snoc
    rw [if_pos (by omega)]
    exact le_trans (hc (by omega)) (hr.le hx hxm)
theorem MS.right {h m : Nat} {f L R : Nat → Ent} {i j : Nat} {out : Nat → Ent} (M : MS h m f L R i j out) (hi : i < h) (hj : j < m) (hl : Srt h L) (hr : Srt m R) (hc : Hp.le (R j).k (L i).k) : MS h m f L R i (j + 1) (snoc out (i + j) (R j)) := by
  have e : i + (j + 1) = i + j + 1 := by omega
  refine ⟨(M.re.trans (Rearr.rot (p := i + j) (q := j + h) _ (by omega) (by omega))).congr fun x hx => ?_, ?_, ?_, ?_⟩
  · unfold snoc
    by_cases h1 : x = i + j
    · subst h1
      rw [if_pos rfl, if_neg (by omega), if_neg (by omega), if_pos (by omega), if_pos rfl]
      congr 1
      omega
    · rw [if_neg h1]
      by_cases h2 : i + j < x ∧ x ≤ j + h
      · rw [if_pos h2, if_neg (by omega), if_pos (by omega), if_neg (by omega), if_pos (by omega)]
        congr 1
        omega
      · rw [if_neg h2]
        by_cases h3 : x < i + j
        · rw [if_pos h3, if_pos (by omega), if_neg h1]
        · rw [if_neg h3, if_neg (by omega), if_neg (by omega), if_neg (by omega)]
  · rw [e]
    exact M.so.snoc fun h0 => M.hi h0 j (Nat.le_refl _) hj
  · intro _ x hx hxh
    unfold snoc
    rw [if_pos (by omega)]
    exact le_trans hc (hl.le hx hxh)
  · intro _ x hx hxm
    unfold snoc
    rw [if_pos (by omega)]
    exact hr.le (by omega) hxm
theorem MS.done {h m : Nat} {f L R : Nat → Ent} {j : Nat} {out : Nat → Ent} (M : MS h m f L R h j out) (_hj : j ≤ m) (hr : Srt m R) : Rearr (h + m) f (fun x => if x < h + j then out x else R (x - h)) ∧ Srt (h + m) (fun x => if x < h + j then out x else R (x - h)) := by
  refine ⟨M.re.congr fun x hx => ?_, fun i hi => ?_⟩
  · by_cases h1 : x < h + j
    · rw [if_pos h1, if_pos h1]
    · rw [if_neg h1, if_neg h1, if_neg (by omega)]
  · dsimp only
    by_cases h1 : i + 1 < h + j
    · rw [if_pos h1, if_pos (by omega)]
      exact M.so i h1
    · rw [if_neg h1]
      by_cases h2 : i < h + j
      · rw [if_pos h2]
        have := M.hi (by omega) (i + 1 - h) (by omega) (by omega)
        rwa [show h + j - 1 = i by omega] at this
      · rw [if_neg h2]
        exact hr.le (by omega) (by omega)

/-- Put in order with no two alike, there is one way. -/
theorem mono_id {n : Nat} {s : Nat → Nat} (hs : ∀ i, i < n → s i < n) (hm : ∀ i, i + 1 < n → s i < s (i + 1)) : ∀ i, i < n → s i = i := by
  have h1 : ∀ i, i < n → i ≤ s i := by
    intro i
    induction i with
    | zero => intro _; omega
    | succ i ih => intro hi; have := ih (by omega); have := hm i hi; omega
  have h2 : ∀ d i, i + d + 1 = n → s i ≤ i := by
    intro d
    induction d with
    | zero => intro i hi; have := hs i (by omega); omega
    | succ d ih => intro i hi; have := ih (i + 1) (by omega); have := hm i (by omega); omega
  intro i hi
  have := h1 i hi
  have := h2 (n - i - 1) i (by omega)
  omega
theorem sorted_one {n : Nat} {f g g' : Nat → Ent} (a : Rearr n f g) (b : Rearr n f g') (hg : ∀ i, i + 1 < n → lt (g i).k (g (i + 1)).k = true) (hg' : Srt n g') : ∀ i, i < n → g' i = g i := by
  obtain ⟨s, t, h1, h2⟩ := a.symm.trans b
  have far : ∀ d i, i + d + 1 < n → lt (g i).k (g (i + d + 1)).k = true := by
    intro d
    induction d with
    | zero => intro i hi; exact hg i hi
    | succ d ih => intro i hi; exact lt_trans (ih i (by omega)) (hg (i + d + 1) (by omega))
  have hm : ∀ i, i + 1 < n → s i < s (i + 1) := by
    intro i hi
    rcases Nat.lt_trichotomy (s i) (s (i + 1)) with h | h | h
    · exact h
    · have e1 := (h1 i (by omega)).2.2.1
      have e2 := (h1 (i + 1) hi).2.2.1
      rw [h, e2] at e1
      omega
    · have q := far (s i - s (i + 1) - 1) (s (i + 1)) (by have := (h1 i (by omega)).1; omega)
      rw [show s (i + 1) + (s i - s (i + 1) - 1) + 1 = s i by omega] at q
      have := hg' i hi
      rw [h2 i (by omega), h2 (i + 1) hi] at this
      unfold Hp.le at this
      rw [this] at q
      cases q
  have hid := mono_id (fun i hi => (h1 i hi).1) hm
  intro i hi
  rw [h2 i hi, hid i hi]
end Go.Hp

/-
  Blobs put in the order of their names by the document: run alone.
-/
namespace Go.Proofs.YtkpcmfgeanlcnaaDoor
open Go.RowKit Go.Deep Go.Hp

def SortPost (n : Nat) (f : Nat → Ent) (w : World) (r : Ending) (w' : World) : Prop :=
  Below w.heap.size w w' ∧ ∃ f' v, r = .returned v ∧ Rearr n f f' ∧ Srt n f' ∧ w'.ownsRow w.heap.size 87 2 v n (blobL n f')
theorem BC.take {w : World} {bo : Option Addr} {n m : Nat} {f : Nat → Ent} (h : BC w bo n f) (hm : m ≤ n) : BC w bo m f := ⟨fun h0 => by
  obtain ⟨b, o, h1, h2, h3⟩ := h.here (by omega)
  exact ⟨b, o, h1, h2, fun i hi => h3 i (by omega)⟩⟩
theorem BC.drop {w : World} {b o : Nat} {n m : Nat} {f : Nat → Ent} (h : BC w (some ⟨b, o, none⟩) (m + n) f) (hn : 0 < n) : BC w (some ⟨b, o + m * 2, none⟩) n (fun i => f (m + i)) := ⟨fun _ => by
  obtain ⟨b', o', h1, h2, h3⟩ := h.here (by omega)
  cases h1
  refine ⟨b, o + m * 2, rfl, h2, fun i hi => ?_⟩
  have := h3 (m + i) (by omega)
  rw [show o + (m + i) * 2 = o + m * 2 + i * 2 by omega] at this
  exact this⟩
theorem BC.of_owns {w : World} {B n : Nat} {v : Value} {f : Nat → Ent} (h : w.ownsRow B 87 2 v n (blobL n f)) : ∃ bo cap, v = .slice bo n cap ∧ n ≤ cap ∧ (bo = none → cap = 0) ∧ BC w bo n f := by
  rcases h.2 with ⟨rfl, rfl⟩ | ⟨g, cap, cur, rfl, h2, h3, h4, _⟩
  · exact ⟨none, 0, rfl, Nat.le_refl _, fun _ => rfl, ⟨fun h0 => absurd h0 (by omega)⟩⟩
  · refine ⟨_, cap, rfl, h4, (fun e => nomatch e), ⟨fun _ => ⟨g, 0, rfl, (h.lt g rfl).2, fun i hi => ?_⟩⟩⟩
    have q0 := h.cellAt (i * 2) (by omega)
    have q1 := h.cellAt (i * 2 + 1) (by omega)
    rw [show i * 2 = i * 2 + 0 from rfl, blobL_get n f i 0 hi (by omega)] at q0
    rw [blobL_get n f i 1 hi (by omega)] at q1
    rw [Nat.zero_add]
    exact ⟨q0, q1⟩
theorem BC.news {w : World} {ad : Addr} {n : Nat} {f : Nat → Ent} (h : BC w (some ad) n f) : ∀ j u, (blobL n f)[j]? = some u → w.cell? (ad.add j) = some u := by
  intro j u hj
  have hl : j < n * 2 := by
    rcases Nat.lt_or_ge j (n * 2) with q | q
    · exact q
    · rw [List.getElem?_eq_none (by rw [blobL_length]; omega)] at hj; cases hj
  obtain ⟨b, o, e, _, hc⟩ := h.here (by omega)
  cases e
  have hd : j = j / 2 * 2 + j % 2 := by omega
  rw [hd, blobL_get n f (j / 2) (j % 2) (by omega) (by omega)] at hj
  rw [addr_addD, hd]
  have q := hc (j / 2) (by omega)
  have : j % 2 = 0 ∨ j % 2 = 1 := by omega
  rcases this with e | e
  · rw [e] at hj ⊢
    cases hj
    exact q.1
  · rw [e] at hj ⊢
    cases hj
    exact q.2
theorem blobL_snoc (n : Nat) (out : Nat → Ent) (e : Ent) : blobL (n + 1) (Hp.snoc out n e) = blobL n out ++ blobC e := by
  rw [blobL_succ, blobL_congr (g := out) fun i hi => by unfold Hp.snoc; rw [if_neg (by omega)]]
  unfold Hp.snoc
  rw [if_pos rfl]
theorem blobL_add (a b : Nat) (f : Nat → Ent) : blobL (a + b) f = blobL a f ++ blobL b (fun x => f (a + x)) := by
  induction b with
  | zero => simp [blobL]
  | succ b ih => rw [← Nat.add_assoc, blobL_succ, ih, blobL_succ, List.append_assoc]
theorem blobL_merge (h j m : Nat) (hj : j ≤ m) (out R : Nat → Ent) : blobL (h + j) out ++ blobL (m - j) (fun x => R (j + x)) = blobL (h + m) (fun x => if x < h + j then out x else R (x - h)) := by
  rw [show h + m = h + j + (m - j) by omega]
  have e1 : blobL (h + j) out = blobL (h + j) (fun x => if x < h + j then out x else R (x - h)) := blobL_congr fun x hx => (if_pos hx).symm
  have e2 : blobL (m - j) (fun x => R (j + x)) = blobL (m - j) (fun x => (fun x => if x < h + j then out x else R (x - h)) (h + j + x)) := blobL_congr fun x hx => by
    show R (j + x) = if h + j + x < h + j then out (h + j + x) else R (h + j + x - h)
    rw [if_neg (by omega)]
    congr 1
    omega
  rw [blobL_add (h + j) (m - j), ← e1, ← e2]
theorem blobL_one (n : Nat) (f : Nat → Ent) : ∀ u ∈ blobL n f, u.oneCell' = true := by
  intro u hu
  unfold blobL at hu
  rw [List.mem_flatMap] at hu
  obtain ⟨i, _, hi⟩ := hu
  exact blobC_one _ u hi

set_option maxHeartbeats 8000000 in
set_option maxRecDepth 100000 in
theorem sorted_any (n : Nat) : ∀ (cap : Nat) (bo : Option Addr) (f : Nat → Ent) (w : World) (_ : n ≤ 1048576) (_ : n ≤ cap) (_ : bo = none → cap = 0) (_ : BC w bo n f),
    Calls Tryd.prog 34 #[.slice bo n cap] w fun r w' => SortPost n f w r w' := by
  obtain ⟨i0, hi0, hz0, hz1, hz2⟩ := info_parts Tryd.infoBlob
  induction n using Nat.strongRecOn with
  | ind n ih =>
    intro cap bo f w hn hcap hbo hB
    by_cases h2 : n < 2
    · have h2' : (n : Int) < 2 := by omega
      have hS : Srt n f := fun i hi => absurd hi (by omega)
      rcases bo with _ | ⟨b, o, p⟩
      · obtain rfl := hbo rfl
        obtain rfl : n = 0 := by omega
        go_enter Tryd.func34, Tryd.ntmps34
        go_wp2_with (at_builtin; refine wpList_append_own_none rfl _ _ 26 rfl w.heap.size 87 i0 2 Tryd.underlying26 hi0 _ _ _ rfl (World.ownsRow_nil _ _ _ _) rfl ?_)
        go_ret
        exact ⟨Below.refl _ _, f, _, rfl, Rearr.refl _ _, hS, World.ownsRow_nil _ _ _ _⟩
      · have hnews := hB.news
        go_enter Tryd.func34, Tryd.ntmps34
        go_wp2_with (at_builtin; refine wpList_append_own _ rfl _ _ 26 rfl w.heap.size 87 i0 (.agg #[.string ⟨#[]⟩, .slice none 0 0]) 2 40 Tryd.underlying26 hi0 hz0 hz1 hz2 rfl (by decide) _ _ _ rfl (World.ownsRow_nil _ _ _ _) ⟨b, o, p⟩ n cap (blobL n f) rfl (blobL_length _ _) hnews (blobL_one _ _) (by unfold maxLen; omega) (by omega) (Nat.le_refl _) ?_; intro v' w' hown' hgrow _)
        go_ret
        exact ⟨(Below.refl _ _).grown hgrow (Nat.le_refl _) (fun k hk => by cases hk), f, _, rfl, Rearr.refl _ _, hS, by simpa using hown'⟩
    · obtain ⟨h, m, hnm, hh, hm0⟩ : ∃ h m, n = h + m ∧ h = n / 2 ∧ 0 < m := ⟨n / 2, n - n / 2, by omega, rfl, by omega⟩
      have hh0 : 0 < h := by omega
      obtain ⟨b, o, rfl, hbl, _⟩ := hB.here (by omega)
      have h2' : ¬ ((n : Int) < 2) := by omega
      have hq1 : (n : Int) / 2 = (h : Int) := by omega
      have hq2 : Int.tdiv (n : Int) 2 = (h : Int) := by rw [Int.tdiv_eq_ediv_of_nonneg (by omega)]; exact hq1
      have hhn : h < n := by omega
      have hhc : (h : Int) ≤ (cap : Int) := by omega
      have K1 := ih h (by omega) cap (some ⟨b, o, none⟩) f w (by omega) (by omega) (fun e => nomatch e) (hB.take (by omega))
      have HN : Hid (n = h + m) := hnm
      clear hnm hh
      have ih' := @ih
      clear ih
      go_enter Tryd.func34, Tryd.ntmps34
      have hB' : ∀ w1, Below w.heap.size w w1 → BC w1 (some ⟨b, o + h * 2, none⟩) m (fun i => f (h + i)) := fun w1 b1 => BC.drop (by rw [← HN.out]; exact hB.below b1 (Nat.le_refl _)) hm0
      have hmn : m < n := by have := HN.out; omega
      have hmc : m ≤ cap - h := by have := HN.out; omega
      have hi1 : (h : Int) ≤ (n : Int) := by omega
      have hcc : ¬ (cap = h) := by omega
      have hnh : n - h = m := by have := HN.out; omega
      go_wp2_with (first
        | (go_at_call 34; (with_reducible refine K1.mono ?_); rintro r w1 ⟨b1, L, vL, rfl, RL, SL, OL⟩; have K2 := ih' m hmn (cap - h) (some ⟨b, o + h * 2, none⟩) (fun i => f (h + i)) w1 (by omega) hmc (fun e => nomatch e) (hB' w1 b1); clear K1)
        | (go_at_call 34; (with_reducible refine K2.mono ?_); rintro r w2 ⟨b2, R, vR, rfl, RR, SR, OR⟩; clear K2))
      obtain ⟨gL, cL, rfl, hgL, _⟩ := OL.form hh0
      obtain ⟨gR, cR, rfl, hgR, hgR2⟩ := OR.form hm0
      have OL2 : ∀ w3, Below w2.heap.size w2 w3 → ∀ i, i < h → w3.cell? ⟨gL, i * 2, none⟩ = some (.string ⟨(L i).k.toArray⟩) ∧ w3.cell? ⟨gL, i * 2 + 1, none⟩ = some (.slice (L i).a (L i).l (L i).c) := fun w3 b3 i hi => by
        have h1 := OL.cellAt (i * 2) (by omega)
        have h2 := OL.cellAt (i * 2 + 1) (by omega)
        rw [show i * 2 = i * 2 + 0 from rfl, blobL_get h L i 0 hi (by omega)] at h1
        rw [blobL_get h L i 1 hi (by omega)] at h2
        have hlt := (OL.lt gL rfl).2
        have hlt2 := b2.size
        exact ⟨((b3.cell (p := ⟨gL, _, none⟩) (show gL < w2.heap.size by omega)).trans (b2.cell (p := ⟨gL, _, none⟩) hlt)).trans h1, ((b3.cell (p := ⟨gL, _, none⟩) (show gL < w2.heap.size by omega)).trans (b2.cell (p := ⟨gL, _, none⟩) hlt)).trans h2⟩
      have OR2 : ∀ w3, Below w2.heap.size w2 w3 → ∀ i, i < m → w3.cell? ⟨gR, i * 2, none⟩ = some (.string ⟨(R i).k.toArray⟩) ∧ w3.cell? ⟨gR, i * 2 + 1, none⟩ = some (.slice (R i).a (R i).l (R i).c) := fun w3 b3 i hi => by
        have h1 := OR.cellAt (i * 2) (by omega)
        have h2 := OR.cellAt (i * 2 + 1) (by omega)
        rw [show i * 2 = i * 2 + 0 from rfl, blobL_get m R i 0 hi (by omega)] at h1
        rw [blobL_get m R i 1 hi (by omega)] at h2
        have hlt := (OR.lt gR rfl).2
        exact ⟨(b3.cell (p := ⟨gR, _, none⟩) hlt).trans h1, (b3.cell (p := ⟨gR, _, none⟩) hlt).trans h2⟩
      have hcR : m ≤ cR ∧ cR ≤ 9223372036854775807 := by
        rcases OR.2 with ⟨q, _⟩ | ⟨g, c, cur, q, _, _, q4, q5, _⟩
        · cases q
        · cases q; exact ⟨q4, q5⟩
      have M0 := MS.start RL RR
      have bB : Below w.heap.size w w2 := b1.trans (b2.mono b1.size)
      have hBB := bB.size
      have p0 : w2.ownsRow w2.heap.size 87 2 (.slice none 0 0) (0 + 0) (blobL (0 + 0) f) := World.ownsRow_nil _ _ _ _
      clear OL OR hgL hgR hgR2 hB hB' ih' RL RR b1 b2
      generalize hBs : w2.heap.size = B at *
      go_loopw [3, 5, 6] (fun vs vb vi wr => ∃ (i j oR c' : Nat) (out : Nat → Ent), i ≤ h ∧ j ≤ m ∧ vi = .int .i64 ((i : Nat) : Int) ∧ vb = .slice (some ⟨gR, oR, none⟩) (m - j) c' ∧ m - j ≤ c' ∧ c' ≤ 9223372036854775807 ∧ (j < m → oR = j * 2) ∧ MS h m f L R i j out ∧ wr.ownsRow B 87 2 vs (i + j) (blobL (i + j) out) ∧ Below B w2 wr) (fun _ _ vi _ => h - (intOf vi).toNat)
      case atStart => exact ⟨0, 0, 0, cR, f, by omega, by omega, rfl, by simp, by omega, by omega, fun _ => by omega, M0, p0, Below.refl _ _⟩
      case round =>
        clear M0 p0
        obtain ⟨i, j, oR, c', out, hi, hj, rfl, rfl, hc1, hc2, ho, M, hown, hb⟩ := hrel
        by_cases hlt : i < h
        · have hlt' : (i : Int) < (h : Int) := by omega
          have hLi : (i : Int) < (h : Int) := hlt'
          go_wp2
          go_loopw [3, 5] (fun vs vb wr => ∃ (j oR c' : Nat) (out : Nat → Ent), j ≤ m ∧ vb = .slice (some ⟨gR, oR, none⟩) (m - j) c' ∧ m - j ≤ c' ∧ c' ≤ 9223372036854775807 ∧ (j < m → oR = j * 2) ∧ MS h m f L R i j out ∧ wr.ownsRow B 87 2 vs (i + j) (blobL (i + j) out) ∧ Below B w2 wr) (fun _ vb _ => match vb with | .slice _ l _ => l | _ => 0)
          case atStart => exact ⟨j, oR, c', out, hj, rfl, hc1, hc2, ho, M, hown, hb⟩
          case round =>
            obtain ⟨j, oR, c', out, hj, rfl, hc1, hc2, ho, M, hown, hb⟩ := hrel
            have hs : B ≤ wr.heap.size := hBs ▸ hb.size
            obtain ⟨cl0, cl1⟩ := OL2 wr hb i hlt
            have hnm2 := HN.out
            have hsum : i + j + 1 ≤ 1048576 := by omega
            clear hnm2
            rcases Nat.lt_or_ge j m with hjm | hjm
            · obtain rfl := ho hjm
              obtain ⟨q, hq⟩ : ∃ q, m - j = q + 1 := ⟨m - j - 1, by omega⟩
              obtain ⟨cr0, cr1⟩ := OR2 wr hb j hjm
              have hqp : (0 : Int) < (q : Int) + 1 := by omega
              have HQ : Hid (m - j = q + 1) := hq
              rw [hq] at hc1 ⊢
              clear hq
              rcases hcmp : Hp.lt (R j).k (L i).k with _ | _
              · have HC := hcmp
                simp only [Hp.lt] at hcmp
                go_wp2
                go_quiet (fail)
                have hb' := below_drewN hb nq
                have hown' : (wr.drewN nq).ownsRow B 87 2 u3 (i + j) (blobL (i + j) out) := hown
                have hs' : B ≤ (wr.drewN nq).heap.size := hs
                replace cl0 : (wr.drewN nq).cell? ⟨gL, i * 2, none⟩ = some (.string ⟨(L i).k.toArray⟩) := cl0
                replace cl1 : (wr.drewN nq).cell? ⟨gL, i * 2 + 1, none⟩ = some (.slice (L i).a (L i).l (L i).c) := cl1
                clear cr0 cr1
                clear hb hown hs
                generalize wr.drewN nq = W at *
                go_wp2_with (at_builtin; refine wpList_append_own _ rfl _ _ 26 rfl B 87 i0 (.agg #[.string ⟨#[]⟩, .slice none 0 0]) 2 40 Tryd.underlying26 hi0 hz0 hz1 hz2 rfl (by decide) _ _ _ rfl (hown'.alloc _) ⟨W.heap.size, 0, none⟩ 1 1 (blobC (L i)) rfl rfl (cell_two_new _ _ _ _) (blobC_one _) (by unfold maxLen; omega) (by omega) (by simp; omega) ?_; intro v' w5 hown5 hgrow _)
                have hn5 : w5.ownsRow B 87 2 v' (i + 1 + j) (blobL (i + 1 + j) (snoc out (i + j) (L i))) := by
                  rw [show i + 1 + j = i + j + 1 by omega, blobL_snoc]
                  exact hown5
                have b5 := hb'.trans (app_below hown' hs' ((Below.refl _ _).alloc (Nat.le_refl _) _) hgrow (Nat.le_refl _))
                clear hown5 hgrow
                go_roundw
                case rel => exact ⟨i + 1, j, j * 2, c', _, by omega, hj, by go_num, by rw [HQ.out], by rw [HQ.out]; exact hc1, hc2, fun _ => rfl, M.left hlt hj SL SR (fun _ => HC), hn5, b5⟩
                case measure => simp [intOf]; omega
              · have HC := hcmp
                simp only [Hp.lt] at hcmp
                have hone : (1 : Int) ≤ (q : Int) + 1 := by omega
                have hcap2 : (q : Int) + 1 ≤ (c' : Int) := by omega
                obtain ⟨oN, hoN, hif⟩ : ∃ oN, (j + 1 < m → oN = (j + 1) * 2) ∧ (if c' = 1 then some (⟨gR, j * 2, none⟩ : Addr) else some ⟨gR, j * 2 + 2, none⟩) = some ⟨gR, oN, none⟩ := by
                  have := HQ.out
                  by_cases e : c' = 1
                  · exact ⟨j * 2, fun _ => by omega, by rw [if_pos e]⟩
                  · exact ⟨j * 2 + 2, fun _ => by omega, by rw [if_neg e]⟩
                go_wp2
                go_quiet (fail)
                have hb' := below_drewN hb nq
                have hown' : (wr.drewN nq).ownsRow B 87 2 u3 (i + j) (blobL (i + j) out) := hown
                have hs' : B ≤ (wr.drewN nq).heap.size := hs
                replace cl0 : (wr.drewN nq).cell? ⟨gL, i * 2, none⟩ = some (.string ⟨(L i).k.toArray⟩) := cl0
                replace cl1 : (wr.drewN nq).cell? ⟨gL, i * 2 + 1, none⟩ = some (.slice (L i).a (L i).l (L i).c) := cl1
                replace cr0 : (wr.drewN nq).cell? ⟨gR, j * 2, none⟩ = some (.string ⟨(R j).k.toArray⟩) := cr0
                replace cr1 : (wr.drewN nq).cell? ⟨gR, j * 2 + 1, none⟩ = some (.slice (R j).a (R j).l (R j).c) := cr1
                clear cl0 cl1
                clear hb hown hs
                generalize wr.drewN nq = W at *
                go_wp2_with (at_builtin; refine wpList_append_own _ rfl _ _ 26 rfl B 87 i0 (.agg #[.string ⟨#[]⟩, .slice none 0 0]) 2 40 Tryd.underlying26 hi0 hz0 hz1 hz2 rfl (by decide) _ _ _ rfl (hown'.alloc _) ⟨W.heap.size, 0, none⟩ 1 1 (blobC (R j)) rfl rfl (cell_two_new _ _ _ _) (blobC_one _) (by unfold maxLen; omega) (by omega) (by simp; omega) ?_; intro v' w5 hown5 hgrow _; have b5 := hb'.trans (app_below hown' hs' ((Below.refl _ _).alloc (Nat.le_refl _) _) hgrow (Nat.le_refl _)); clear hgrow)
                have hn5 : w5.ownsRow B 87 2 v' (i + (j + 1)) (blobL (i + (j + 1)) (snoc out (i + j) (R j))) := by
                  rw [show i + (j + 1) = i + j + 1 by omega, blobL_snoc]
                  exact hown5
                go_roundw
                case rel => exact ⟨j + 1, oN, c' - 1, _, by omega, by rw [show m - (j + 1) = q by have := HQ.out; omega], by have := HQ.out; omega, by omega, hoN, M.right hlt hjm SL SR (Hp.le_of_lt HC), hn5, b5⟩
                case measure => simp
            · have hmj : m - j = 0 := by omega
              rw [hmj] at hc1 ⊢
              have HMJ : Hid (m - j = 0) := hmj
              clear hmj ho
              go_wp2
              go_quiet (fail)
              have hb' := below_drewN hb nq
              have hown' : (wr.drewN nq).ownsRow B 87 2 u3 (i + j) (blobL (i + j) out) := hown
              have hs' : B ≤ (wr.drewN nq).heap.size := hs
              replace cl0 : (wr.drewN nq).cell? ⟨gL, i * 2, none⟩ = some (.string ⟨(L i).k.toArray⟩) := cl0
              replace cl1 : (wr.drewN nq).cell? ⟨gL, i * 2 + 1, none⟩ = some (.slice (L i).a (L i).l (L i).c) := cl1
              clear hb hown hs
              generalize wr.drewN nq = W at *
              go_wp2_with (at_builtin; refine wpList_append_own _ rfl _ _ 26 rfl B 87 i0 (.agg #[.string ⟨#[]⟩, .slice none 0 0]) 2 40 Tryd.underlying26 hi0 hz0 hz1 hz2 rfl (by decide) _ _ _ rfl (hown'.alloc _) ⟨W.heap.size, 0, none⟩ 1 1 (blobC (L i)) rfl rfl (cell_two_new _ _ _ _) (blobC_one _) (by unfold maxLen; omega) (by omega) (by simp; omega) ?_; intro v' w5 hown5 hgrow _)
              have hn5 : w5.ownsRow B 87 2 v' (i + 1 + j) (blobL (i + 1 + j) (snoc out (i + j) (L i))) := by
                rw [show i + 1 + j = i + j + 1 by omega, blobL_snoc]
                exact hown5
              have b5 := hb'.trans (app_below hown' hs' ((Below.refl _ _).alloc (Nat.le_refl _) _) hgrow (Nat.le_refl _))
              clear hown5 hgrow
              go_roundw
              case rel => exact ⟨i + 1, j, oR, c', _, by omega, hj, by go_num, by rw [HMJ.out], by omega, hc2, fun h => absurd h (by omega), M.left hlt hj SL SR (fun h => absurd h (by omega)), hn5, b5⟩
              case measure => simp [intOf]; omega
        · have hfin : i = h := by omega
          rw [hfin] at M hown ⊢
          clear hlt hi hfin
          obtain ⟨F1, F2⟩ := M.done hj SR
          have hnl : ¬ ((h : Int) < (h : Int)) := by omega
          have hs : B ≤ wr.heap.size := hBs ▸ hb.size
          have hnews : ∀ k u, (blobL (m - j) (fun x => R (j + x)))[k]? = some u → wr.cell? ((⟨gR, oR, none⟩ : Addr).add k) = some u := by
            refine BC.news ⟨fun h0 => ⟨gR, oR, rfl, ?_, fun x hx => ?_⟩⟩
            · have := cell_lt (OR2 wr hb 0 hm0).1
              exact this
            · have := OR2 wr hb (j + x) (by omega)
              rw [ho (by omega), show j * 2 + x * 2 = (j + x) * 2 by omega]
              exact this
          have HNo := HN.out
          have hsum : h + j + (m - j) = n := by omega
          have hb2 : blobL (h + j) out ++ blobL (m - j) (fun x => R (j + x)) = blobL n (fun x => if x < h + j then out x else R (x - h)) := by
            rw [HNo]
            exact blobL_merge h j m hj out R
          have HB2 : Hid _ := hb2
          have HS : Hid _ := hsum
          rw [← HNo] at F1 F2
          clear hb2 HNo hsum M ho
          go_wp2_with (at_builtin; refine wpList_append_own _ rfl _ _ 26 rfl B 87 i0 (.agg #[.string ⟨#[]⟩, .slice none 0 0]) 2 40 Tryd.underlying26 hi0 hz0 hz1 hz2 rfl (by decide) _ _ _ rfl hown ⟨gR, oR, none⟩ (m - j) c' (blobL (m - j) (fun x => R (j + x))) rfl (blobL_length _ _) hnews (blobL_one _ _) (by have := HS.out; unfold maxLen; omega) (by have := HS.out; omega) hs ?_; intro v' w5 hown5 hgrow _)
          go_ret
          rw [HS.out, HB2.out] at hown5
          exact ⟨bB.trans ((hb.trans (app_below hown hs (Below.refl _ _) hgrow (Nat.le_refl _))).mono (by omega)), _, _, rfl, F1, F2, hown5.mono (by omega)⟩
end Go.Proofs.YtkpcmfgeanlcnaaDoor

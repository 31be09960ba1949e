/-
  Blobs put in the order of their names by the program: run alone.
-/
import Derived.Test.YtkpcmfgeanlcnabDoorHpE
import Derived.Test.YtkpcmfgeanlcnabDoorWrC
import Derived.Test.YtkpcmfgeanlcnabDoorWrE
import Derived.Deep.QuietTactic
import Derived.BigQuiet
namespace Go.Proofs.YtkpcmfgeanlcnabDoor
open Go.RowKit Go.Deep Go.Hp

theorem Tryd.infoBlob : (Tryd.prog.info? 31).map (fun i => (i.zero, i.size, i.bytes)) = some (some (.agg #[.string ⟨#[]⟩, .slice none 0 0]), 2, 40) := by kernel_rfl
def blobC (e : Ent) : List Value := [strV e.k, e.d]
def blobL (n : Nat) (f : Nat → Ent) : List Value := (List.range n).flatMap fun i => blobC (f i)
theorem blobL_succ (n : Nat) (f : Nat → Ent) : blobL (n + 1) f = blobL n f ++ blobC (f n) := by
  unfold blobL
  rw [List.range_succ, List.flatMap_append]
  simp
theorem blobL_length (n : Nat) (f : Nat → Ent) : (blobL n f).length = n * 2 := by
  induction n with
  | zero => rfl
  | succ n ih => rw [blobL_succ, List.length_append, ih]; simp [blobC]; omega
theorem blobL_get (n : Nat) (f : Nat → Ent) (i p : Nat) (hi : i < n) (hp : p < 2) : (blobL n f)[i * 2 + p]? = (blobC (f i))[p]? := by
  induction n with
  | zero => omega
  | succ n ih =>
    rw [blobL_succ]
    by_cases e : i = n
    · subst e
      rw [List.getElem?_append_right (by rw [blobL_length]; omega), blobL_length, show i * 2 + p - i * 2 = p by omega]
    · rw [List.getElem?_append_left (by rw [blobL_length]; omega), ih (by omega)]
theorem blobL_congr {n : Nat} {f g : Nat → Ent} (h : ∀ i, i < n → f i = g i) : blobL n f = blobL n g := by
  induction n with
  | zero => rfl
  | succ n ih => rw [blobL_succ, blobL_succ, ih fun i hi => h i (by omega), h n (by omega)]
theorem blobC_one (e : Ent) : ∀ u ∈ blobC e, u.oneCell' = true := by
  intro u hu
  simp [blobC] at hu
  rcases hu with rfl | rfl <;> rfl

/-- Blobs where they lie. -/
structure BC (w : World) (bo : Option Addr) (n : Nat) (f : Nat → Ent) : Prop where
  here : 0 < n → ∃ b o, bo = some ⟨b, o, none⟩ ∧ b < w.heap.size ∧ ∀ i, i < n → w.cell? ⟨b, o + i * 2, none⟩ = some (strV (f i).k) ∧ w.cell? ⟨b, o + i * 2 + 1, none⟩ = some (f i).d
theorem BC.below {w w' : World} {bo : Option Addr} {n B : Nat} {f : Nat → Ent} (h : BC w bo n f) (hb : Below B w w') (hB : w.heap.size ≤ B) : BC w' bo n f := ⟨fun hn => by
  obtain ⟨b, o, h1, h2, h3⟩ := h.here hn
  exact ⟨b, o, h1, Nat.lt_of_lt_of_le h2 hb.size, fun i hi => ⟨(hb.cell (p := ⟨b, _, none⟩) (Nat.lt_of_lt_of_le h2 hB)).trans (h3 i hi).1, (hb.cell (p := ⟨b, _, none⟩) (Nat.lt_of_lt_of_le h2 hB)).trans (h3 i hi).2⟩⟩⟩

theorem owns_keep' {w w' : World} {B e s n : Nat} {v : Value} {xs : List Value} (h : w.ownsRow B e s v n xs) (hk : ∀ g, v.ownBlock = some g → w'.heap[g]? = w.heap[g]?) : w'.ownsRow B e s v n xs := by
  refine ⟨h.1, ?_⟩
  rcases h.2 with h1 | ⟨g, cap, cur, h1, h2, h3, h4⟩
  · exact .inl h1
  · exact .inr ⟨g, cap, cur, h1, h2, by rw [hk g (by rw [h1]; rfl)]; exact h3, h4⟩
theorem kind_ne {w : World} {B B' t t' s s' n n' : Nat} {v v' : Value} {xs xs' : List Value} (h : w.ownsRow B t s v n xs) (h' : w.ownsRow B' t' s' v' n' xs') (ht : t ≠ t') {b : Nat} (hb : v.ownBlock = some b) : v'.ownBlock ≠ some b := fun hb' => by
  obtain ⟨c1, f1, e1⟩ := Lib.ownsRow_kind h b hb
  obtain ⟨c2, f2, e2⟩ := Lib.ownsRow_kind h' b hb'
  rw [e1] at e2
  cases e2
  exact ht rfl

theorem owns_new (w : World) (n B : Nat) (hB : B ≤ w.heap.size) (hn : n ≤ 1048576) : (w.alloc (.cells (madeCells #[.string ⟨#[]⟩, .slice none 0 0] (n * 2)) 31)).ownsRow B 31 2 (.slice (some ⟨w.heap.size, 0, none⟩) 0 n) 0 [] :=
  ⟨rfl, .inr ⟨w.heap.size, n, madeCells #[.string ⟨#[]⟩, .slice none 0 0] (n * 2), rfl, hB, heap_alloc_new _ _, by omega, by unfold maxLen; omega, size_madeCells _ _, rfl⟩⟩
theorem cell_two_new (w : World) (x y : Value) (t : TypeId) : ∀ j u, [x, y][j]? = some u → (w.alloc (.cells #[x, y] t)).cell? ((⟨w.heap.size, 0, none⟩ : Addr).add j) = some u := by
  intro j u hj
  match j, hj with
  | 0, hj => simp at hj; subst hj; simp [Addr.add]
  | 1, hj => simp at hj; subst hj; simp [Addr.add]
theorem keep_blobs {w w' : World} {h n m : Nat} {fh out : Nat → Ent} {v v' : Value} (hown : w.ownsRow (h + 1) 31 2 v' m (blobL m out)) (H : w.ownsRow (h + 1) 64 3 v n (entL n fh)) (hfr : ∀ b, b < w.heap.size → b ≠ h → some b ≠ v.ownBlock → w'.heap[b]? = w.heap[b]?) : w'.ownsRow (h + 1) 31 2 v' m (blobL m out) :=
  owns_keep' hown fun g hg => hfr g (hown.lt g hg).2 (by have := (hown.lt g hg).1; omega) (fun e => kind_ne hown H (by decide) hg e.symm)
theorem new_blob (w : World) (e : Ent) : (w.alloc (.cells #[.string ⟨e.k.toArray⟩, .slice e.a e.l e.c] 31)).cell? ⟨w.heap.size, 0, none⟩ = some (.string ⟨e.k.toArray⟩) ∧ (w.alloc (.cells #[.string ⟨e.k.toArray⟩, .slice e.a e.l e.c] 31)).cell? ⟨w.heap.size, 1, none⟩ = some (.slice e.a e.l e.c) := by
  constructor <;> simp
theorem make_blobs (n : Nat) (hn : n ≤ 1048576) (w : World) : (Instr.makeSlice 26 (.int .i64 0) (.int .i64 (n : Int))).run Tryd.prog w = .ok (.slice (some ⟨w.heap.size, 0, none⟩) 0 n) (w.alloc (.cells (madeCells #[.string ⟨#[]⟩, .slice none 0 0] (n * 2)) 31)) := by
  obtain ⟨i0, hi0, hz0, hz1, hz2⟩ := info_parts Tryd.infoBlob
  have := run_make (P := Tryd.prog) w 26 31 i0 _ Tryd.underlying26 hi0 hz0 .i64 .i64 0 n (by omega) (by omega) (by rw [hz2]; omega) (by omega)
  rw [hz1] at this
  simp only [Int.toNat_natCast] at this
  exact this
theorem dup_not {n : Nat} {f g : Nat → Ent} (h : Rearr n f g) {i j : Nat} (hi : i < n) (hj : j < n) (hij : i ≠ j) (e : (g i).k = (g j).k) : ¬ (∀ i j, i < j → j < n → (f i).k ≠ (f j).k) := by
  obtain ⟨i', j', h1, h2, h3, h4, h5⟩ := h.two hi hj hij
  rw [h4, h5] at e
  intro hd
  rcases Nat.lt_or_ge i' j' with h | h
  · exact hd i' j' h h2 e
  · exact hd j' i' (by omega) h1 e.symm
theorem lt_far {n : Nat} {f : Nat → Ent} (h : ∀ i, i + 1 < n → Hp.lt (f i).k (f (i + 1)).k = true) : ∀ d i, i + d + 1 < n → Hp.lt (f i).k (f (i + d + 1)).k = true
  | 0, i, hi => h i hi
  | d + 1, i, hi => Hp.lt_trans (lt_far h d i (by omega)) (h (i + d + 1) (by omega))
theorem apart_of {n : Nat} {f g : Nat → Ent} (h : Rearr n f g) (hs : ∀ i, i + 1 < n → Hp.lt (g i).k (g (i + 1)).k = true) : ∀ i j, i < j → j < n → (f i).k ≠ (f j).k := fun i j hij hj e => by
  refine dup_not h.symm (i := i) (j := j) (by omega) hj (by omega) e fun i j hij hj e => ?_
  have := lt_far hs (j - i - 1) i (by omega)
  rw [show i + (j - i - 1) + 1 = j by omega, e, Hp.lt_irrefl] at this
  cases this

def Fits (k : List UInt8) : Prop := 1 ≤ k.length ∧ k.length ≤ 255
/-- Names that may be, no two the same. -/
def NamesFit (n : Nat) (f : Nat → Ent) : Prop := (∀ i, i < n → Fits (f i).k) ∧ ∀ i j, i < j → j < n → (f i).k ≠ (f j).k
def ByPost (n : Nat) (f : Nat → Ent) (w : World) (r : Ending) (w' : World) : Prop :=
  Below w.heap.size w w' ∧ ((¬ NamesFit n f ∧ r = .returned (.tuple #[.slice none 0 0, .bool false])) ∨
    (NamesFit n f ∧ ∃ f' v, r = .returned (.tuple #[v, .bool true]) ∧ Rearr n f f' ∧ (∀ i, i + 1 < n → Hp.lt (f' i).k (f' (i + 1)).k = true) ∧ w'.ownsRow w.heap.size 31 2 v n (blobL n f')))

theorem next_inv {h i m k : Nat} {f out fh f2 : Nat → Ent} {v2 vs v' : Value} {w W4 wa w5 : World} (hk : i - m = k + 1) (hp : Hp fh (k + 1)) (hR' : Rearr i f (fun x => if x < m + 1 then (if x = m then fh 0 else out x) else (if x - (m + 1) = 0 then fh k else fh (x - (m + 1)))))
    (hsrt : ∀ x, x + 1 < m → Hp.lt (out x).k (out (x + 1)).k = true) (hle : ∀ x, x < k + 1 → 0 < m → Hp.le (out (m - 1)).k (fh x).k) (hne : 0 < m → (out (m - 1)).k ≠ (fh 0).k) (hR2 : Rearr k (popF k fh) f2) (hp2 : Hp f2 k) (H4 : HA (h + 1) h k f2 v2 W4) (b4 : Below h w W4) (s4 : h + 1 ≤ W4.heap.size) (o4 : W4.ownsRow (h + 1) 31 2 vs m (blobL m out))
    (ha : Below W4.heap.size W4 wa) (hg : wa.grownBy w5 vs.ownBlock) (ho : w5.ownsRow (h + 1) 31 2 v' (m + 1) (blobL m out ++ blobC (fh 0))) :
    m + 1 ≤ i ∧ HA (h + 1) h (i - (m + 1)) f2 v2 w5 ∧ Hp f2 (i - (m + 1)) ∧ Rearr i f (fun x => if x < m + 1 then (fun x => if x = m then fh 0 else out x) x else f2 (x - (m + 1))) ∧ (∀ x, x + 1 < m + 1 → Hp.lt ((fun x => if x = m then fh 0 else out x) x).k ((fun x => if x = m then fh 0 else out x) (x + 1)).k = true) ∧ (∀ x, x < i - (m + 1) → 0 < m + 1 → Hp.le ((fun x => if x = m then fh 0 else out x) (m + 1 - 1)).k (f2 x).k) ∧ w5.ownsRow (h + 1) 31 2 v' (m + 1) (blobL (m + 1) (fun x => if x = m then fh 0 else out x)) ∧ Below h w w5 ∧ h + 1 ≤ w5.heap.size := by
  have ek : i - (m + 1) = k := by omega
  have hsa := ha.size
  have kb : ∀ b, b < W4.heap.size → some b ≠ vs.ownBlock → w5.heap[b]? = W4.heap[b]? := fun b hb hne => (hg.block b (by omega) hne).trans (ha.block b hb)
  have hbw : Below (h + 1) W4 w5 := ((ha.mono s4).grown hg (by omega) (fun x hx => (o4.lt x hx).1))
  have hs5 := hbw.size
  rw [ek]
  refine ⟨by omega, ⟨H4.var.of_block (kb h (by omega) (fun e => by have := (o4.lt h e.symm).1; omega)), owns_keep' H4.own fun g hg' => kb g (H4.own.lt g hg').2 (fun e => kind_ne H4.own o4 (by decide) hg' e.symm), H4.low⟩, hp2, ?_, ?_, ?_, ?_, b4.trans (hbw.mono (by omega)), by omega⟩
  · exact hR'.trans (Rearr.tail (m := m + 1) (o := fun x => if x = m then fh 0 else out x) hR2 (by omega))
  · intro x hx
    dsimp only
    rw [if_neg (show ¬ x = m by omega)]
    by_cases e : x + 1 = m
    · rw [if_pos e]
      have := hle 0 (by omega) (by omega)
      have h3 := Hp.lt_of_le_ne this (hne (by omega))
      rw [show m - 1 = x by omega] at h3
      exact h3
    · rw [if_neg e]
      exact hsrt x (by omega)
  · intro x hx _
    dsimp only
    rw [Nat.add_sub_cancel, if_pos rfl]
    obtain ⟨j, hj, ej⟩ := hR2.from hx
    rw [ej]
    unfold popF
    split
    · exact hp_min hp k (by omega)
    · exact hp_min hp j (by omega)
  · rw [blobL_succ, if_pos rfl, blobL_congr (g := out) fun j hj => by rw [if_neg (by omega)]]
    exact ho

set_option maxHeartbeats 4000000 in
set_option maxRecDepth 100000 in
theorem byName_any (n cap : Nat) (bo : Option Addr) (f : Nat → Ent) (w : World) (hn : n ≤ 1048576) (hk : ∀ i, i < n → (f i).k.length ≤ 9223372036854775807) (hB : BC w bo n f) :
    Calls Tryd.prog 11 #[.slice bo n cap] w fun r w' => ByPost n f w r w' := by
  obtain ⟨i0, hi0, hz0, hz1, hz2⟩ := info_parts Tryd.infoBlob
  have v0 : (w.alloc (.cells #[.slice none 0 0] 47)).rowIs w.heap.size 47 1 (fun _ => .slice none 0 0) :=
    World.rowIs_alloc w #[.slice none 0 0] 47 (fun _ => .slice none 0 0) (fun i hi => by
      obtain rfl : i = 0 := by simp at hi; omega
      rfl)
  have b0 : Below w.heap.size w (w.alloc (.cells #[.slice none 0 0] 47)) := (Below.refl _ _).alloc (Nat.le_refl _) _
  have s0 : (w.alloc (.cells #[.slice none 0 0] 47)).heap.size = w.heap.size + 1 := by simp
  have H0 : HA (w.heap.size + 1) w.heap.size 0 f (.slice none 0 0) (w.alloc (.cells #[.slice none 0 0] 47)) := ⟨v0, World.ownsRow_nil _ _ _ _, by omega⟩
  go_enter Tryd.func11, Tryd.ntmps11
  go_wp2
  generalize w.alloc (.cells #[.slice none 0 0] 47) = w0 at *
  generalize hh : w.heap.size = h at *
  go_loopw [6, 11] (fun _ vi wr => ∃ (i : Nat) (f' : Nat → Ent) (v : Value), i ≤ n ∧ vi = .int .i64 ((i : Nat) : Int) ∧ HA (h + 1) h i f' v wr ∧ Rearr i f f' ∧ Hp f' i ∧ Below h w wr ∧ h + 1 ≤ wr.heap.size ∧ ∀ j, j < i → Fits (f j).k) (fun _ vi _ => n - (intOf vi).toNat)
  case atStart => exact ⟨0, f, _, by omega, rfl, H0, Rearr.refl _ _, fun c _ hc => absurd hc (by omega), b0, by omega, fun j hj => absurd hj (by omega)⟩
  case round =>
    clear v0 b0 s0 H0
    obtain ⟨i, f', v, hi, rfl, H, hR, hp, hb, hs, hf⟩ := hrel
    by_cases hlt : i < n
    · have hlt' : (i : Int) < (n : Int) := by omega
      obtain ⟨b, o, rfl, hbl, hcell⟩ := (hB.below hb (by omega)).here (by omega)
      obtain ⟨c0, c1⟩ := hcell i hlt
      clear hcell
      have nV : (wr.alloc (.cells #[strV (f i).k, (f i).d] 31)).rowIs wr.heap.size 31 2 (fun j => if j = 0 then strV (f i).k else (f i).d) :=
        World.rowIs_alloc wr #[strV (f i).k, (f i).d] 31 _ (fun i hi => by
          have : i = 0 ∨ i = 1 := by simp at hi; omega
          rcases this with rfl | rfl <;> rfl)
      have H1 : HA (h + 1) h i f' v (wr.alloc (.cells #[strV (f i).k, (f i).d] 31)) := ⟨H.var.alloc _, H.own.alloc _, H.low⟩
      have b1 := hb.alloc (by omega) (.cells #[strV (f i).k, (f i).d] 31)
      have s1 : h + 1 ≤ (wr.alloc (.cells #[strV (f i).k, (f i).d] 31)).heap.size := by simp; omega
      have e0 := nV.cell (i := 0) (by omega)
      have e1 := nV.cell (i := 1) (by omega)
      simp only [if_true, Nat.one_ne_zero, if_false] at e0 e1
      by_cases hfit : Fits (f i).k
      · have kn := nameFits_yes (f i).k hfit
        have kp := push_any (h + 1) h i f' v (f i) _ H1 s1 (by omega) hp
        have hR2 : Rearr (i + 1) f (fun x => if x = i then f i else f' x) := hR.snoc (fun _ _ => rfl) (fun x hx => by rw [if_neg (by omega)]) (by rw [if_pos rfl])
        clear H1 H hb nV
        generalize hw1 : wr.alloc (.cells #[strV (f i).k, (f i).d] 31) = w1 at *
        simp only [strV, Ent.d] at *
        go_wp2_with (first
          | (go_at_call 14; (with_reducible refine (kn _).mono ?_); rintro r w' ⟨rfl, hw'⟩; obtain rfl := hw'.symm)
          | (go_at_call 15; (with_reducible refine kp.mono ?_); rintro r w2 ⟨rfl, f2, v2, H2, hR3, hp2, hb2, hs2⟩))
        go_roundw
        case rel => exact ⟨i + 1, f2, v2, by omega, by go_num, H2, hR2.trans hR3, hp2, b1.trans hb2, hs2, fun j hj => by
          by_cases e : j = i
          · rw [e]; exact hfit
          · exact hf j (by omega)⟩
        case measure => simp [intOf]; omega
      · have kn := nameFits_no (f i).k hfit (hk i hlt)
        have bad : ¬ NamesFit n f := fun hN => hfit (hN.1 i hlt)
        clear H1 H hb nV
        generalize hw1 : wr.alloc (.cells #[strV (f i).k, (f i).d] 31) = w1 at *
        simp only [strV, Ent.d] at c0 c1 e0 e1 hw1
        go_wp2_with (first
          | (go_at_call 14; (with_reducible refine (kn _).mono ?_); rintro r w' ⟨rfl, hw'⟩; obtain rfl := hw'.symm))
        go_ret2
        exact ⟨by rw [hh]; exact b1, .inl ⟨bad, rfl⟩⟩
    · obtain rfl : i = n := by omega
      have hnl : ¬ ((i : Int) < (i : Int)) := by omega
      have mk := make_blobs i hn wr
      have own0 := owns_new wr i (h + 1) hs hn
      have H1 : HA (h + 1) h i f' v (wr.alloc (.cells (madeCells #[.string ⟨#[]⟩, .slice none 0 0] (i * 2)) 31)) := ⟨H.var.alloc _, H.own.alloc _, H.low⟩
      have b1 := hb.alloc (by omega) (.cells (madeCells #[.string ⟨#[]⟩, .slice none 0 0] (i * 2)) 31)
      have s1 : h + 1 ≤ (wr.alloc (.cells (madeCells #[.string ⟨#[]⟩, .slice none 0 0] (i * 2)) 31)).heap.size := by simp; omega
      clear H hb hs
      go_wp2
      generalize wr.alloc (.cells (madeCells #[.string ⟨#[]⟩, .slice none 0 0] (i * 2)) 31) = w1 at *
      go_loopw [7, 8] (fun vs _ wq => ∃ (m : Nat) (out fh : Nat → Ent) (v : Value), m ≤ i ∧ HA (h + 1) h (i - m) fh v wq ∧ Hp fh (i - m) ∧ Rearr i f (fun x => if x < m then out x else fh (x - m)) ∧ (∀ x, x + 1 < m → Hp.lt (out x).k (out (x + 1)).k = true) ∧ (∀ x, x < i - m → 0 < m → Hp.le (out (m - 1)).k (fh x).k) ∧ wq.ownsRow (h + 1) 31 2 vs m (blobL m out) ∧ Below h w wq ∧ h + 1 ≤ wq.heap.size) (fun vs _ _ => match vs with | .slice _ m _ => i - m | _ => 0)
      case atStart => exact ⟨0, f', f', v, by omega, H1, hp, hR.congr fun x _ => by rw [if_neg (by omega), Nat.sub_zero], fun x hx => absurd hx (by omega), fun x _ h0 => absurd h0 (by omega), own0, b1, s1⟩
      case round =>
        clear H1 own0 b1 s1 mk hp hR
        obtain ⟨m, out, fh, v, hm, H, hp, hR, hsrt, hle, hown, hb, hs⟩ := hrel
        have kl := len_any (h + 1) h (i - m) fh v _ H
        obtain ⟨bs, cs, rfl⟩ : ∃ bs cs, u7 = .slice bs m cs := by
          rcases hown.2 with ⟨rfl, rfl⟩ | ⟨g, cap, _, rfl, _⟩ <;> exact ⟨_, _, rfl⟩
        by_cases hmn : m < i
        · obtain ⟨k, hk'⟩ : ∃ k, i - m = k + 1 := ⟨i - m - 1, by omega⟩
          rw [hk'] at H hp kl hle
          have hgt : (0 : Int) < (k : Int) + 1 := by omega
          have kp := pop_any (h + 1) h k fh v _ H hs (by omega) hp
          have hR' := hR.trans ((Rearr.popped (k := k) (o := out) (g := fh) (show m + (k + 1) = i by omega)))
          have hp0 := hp
          rcases Nat.eq_zero_or_pos m with h0 | h0
          · have hd : decide ((0 : Int) < (m : Int)) = false := by rw [h0]; rfl
            have hd2 : decide (0 < m) = false := by rw [h0]; rfl
            replace h0 : m < 1 := by omega
            go_wp2_with (first
              | (go_at_call 16; (with_reducible refine kl.mono ?_); rintro r w' ⟨rfl, hw'⟩; obtain rfl := hw'.symm)
              | (go_at_call 17; (with_reducible refine kp.mono ?_); rintro r w2 ⟨rfl, f2, v2, H2, hR2, hp2, hb2, hs2, hfr⟩; have o2 := keep_blobs hown H.own hfr; simp only [strV, Ent.d]; obtain ⟨nb, nc⟩ := new_blob w2 (fh 0); have o3 := o2.alloc (.cells #[.string ⟨(fh 0).k.toArray⟩, .slice (fh 0).a (fh 0).l (fh 0).c] 31); have H3 : HA (h + 1) h k f2 v2 (w2.alloc (.cells #[.string ⟨(fh 0).k.toArray⟩, .slice (fh 0).a (fh 0).l (fh 0).c] 31)) := ⟨H2.var.alloc _, H2.own.alloc _, H2.low⟩; have b3 := (hb.trans hb2).alloc (by omega) (.cells #[.string ⟨(fh 0).k.toArray⟩, .slice (fh 0).a (fh 0).l (fh 0).c] 31); have s3 : h + 1 ≤ (w2.alloc (.cells #[.string ⟨(fh 0).k.toArray⟩, .slice (fh 0).a (fh 0).l (fh 0).c] 31)).heap.size := (by simp; omega); clear kp kl H hown hp hfr H2 o2))
            go_wp2
            go_quiet (fail)
            generalize hW : w2.alloc (.cells #[.string ⟨(fh 0).k.toArray⟩, .slice (fh 0).a (fh 0).l (fh 0).c] 31) = W at *
            replace nb : (W.drewN nq).cell? ⟨w2.heap.size, 0, none⟩ = some (.string ⟨(fh 0).k.toArray⟩) := nb
            replace nc : (W.drewN nq).cell? ⟨w2.heap.size, 1, none⟩ = some (.slice (fh 0).a (fh 0).l (fh 0).c) := nc
            have H4 := H3.drew nq
            have b4 := below_drewN b3 nq
            replace o3 : (W.drewN nq).ownsRow (h + 1) 31 2 (.slice bs m cs) m (blobL m out) := o3
            replace s3 : h + 1 ≤ (W.drewN nq).heap.size := s3
            generalize W.drewN nq = W4 at *
            clear hW H3 b3
            clear W
            go_wp2_with (at_builtin; refine wpList_append_own _ rfl _ _ 26 rfl (h + 1) 31 i0 (.agg #[.string ⟨#[]⟩, .slice none 0 0]) 2 40 Tryd.underlying26 hi0 hz0 hz1 hz2 rfl (by decide) _ _ _ rfl (o3.alloc _) ⟨W4.heap.size, 0, none⟩ 1 1 (blobC (fh 0)) rfl rfl (cell_two_new _ _ _ _) (blobC_one _) (by unfold maxLen; omega) (by omega) (by simp; omega) ?_; intro v' w5 hown5 hgrow _; obtain ⟨gq, cq, rfl, _, _⟩ := hown5.form (by omega))
            go_roundw
            case rel => exact ⟨m + 1, fun x => if x = m then fh 0 else out x, f2, v2, next_inv hk' hp0 hR' hsrt hle (fun h => absurd h (by omega)) hR2 hp2 H4 b4 s3 o3 ((Below.refl _ _).alloc (Nat.le_refl _) _) hgrow hown5⟩
            case measure => simp; omega
          · have hd : (0 : Int) < (m : Int) := by omega
            have hi1 : 0 ≤ (m : Int) - 1 := by omega
            have hi2 : (m : Int) - 1 < (m : Int) := by omega
            obtain ⟨gs, rfl, hgs⟩ : ∃ gs, bs = some ⟨gs, 0, none⟩ ∧ h + 1 ≤ gs := by
              rcases hown.2 with ⟨_, h1⟩ | ⟨g, cap, _, h1, h2, _⟩
              · omega
              · cases h1; exact ⟨_, rfl, h2⟩
            by_cases hne : (out (m - 1)).k = (fh 0).k
            · have hbad : ¬ NamesFit i f := fun hN => dup_not hR' (i := m - 1) (j := m) (by omega) (by omega) (by omega) (by rw [if_pos (by omega), if_neg (by omega), if_pos (by omega), if_pos rfl]; exact hne) hN.2
              go_wp2_with (first
                | (go_at_call 16; (with_reducible refine kl.mono ?_); rintro r w' ⟨rfl, hw'⟩; obtain rfl := hw'.symm)
                | (go_at_call 17; (with_reducible refine kp.mono ?_); rintro r w2 ⟨rfl, f2, v2, H2, hR2, hp2, hb2, hs2, hfr⟩; have o2 := keep_blobs hown H.own hfr; simp only [strV, Ent.d]; obtain ⟨nb, nc⟩ := new_blob w2 (fh 0); have o3 := o2.alloc (.cells #[.string ⟨(fh 0).k.toArray⟩, .slice (fh 0).a (fh 0).l (fh 0).c] 31); have H3 : HA (h + 1) h k f2 v2 (w2.alloc (.cells #[.string ⟨(fh 0).k.toArray⟩, .slice (fh 0).a (fh 0).l (fh 0).c] 31)) := ⟨H2.var.alloc _, H2.own.alloc _, H2.low⟩; have b3 := (hb.trans hb2).alloc (by omega) (.cells #[.string ⟨(fh 0).k.toArray⟩, .slice (fh 0).a (fh 0).l (fh 0).c] 31); have s3 : h + 1 ≤ (w2.alloc (.cells #[.string ⟨(fh 0).k.toArray⟩, .slice (fh 0).a (fh 0).l (fh 0).c] 31)).heap.size := (by simp; omega); have l0 := o3.cellAt ((m - 1) * 2) (by omega); rw [show (blobL m out)[(m - 1) * 2]? = some (.string ⟨(out (m - 1)).k.toArray⟩) from (blobL_get m out (m - 1) 0 (by omega) (by omega))] at l0; clear kp kl H hown hp hfr H2 o2))
              simp only [hne] at l0
              go_wp2
              go_quiet (fail)
              go_wp2
              go_ret2
              exact ⟨by rw [hh]; exact below_drewN b3 _, .inl ⟨hbad, rfl⟩⟩
            · have hne' : ((out (m - 1)).k == (fh 0).k) = false := beq_eq_false_iff_ne.2 hne
              go_wp2_with (first
                | (go_at_call 16; (with_reducible refine kl.mono ?_); rintro r w' ⟨rfl, hw'⟩; obtain rfl := hw'.symm)
                | (go_at_call 17; (with_reducible refine kp.mono ?_); rintro r w2 ⟨rfl, f2, v2, H2, hR2, hp2, hb2, hs2, hfr⟩; have o2 := keep_blobs hown H.own hfr; simp only [strV, Ent.d]; obtain ⟨nb, nc⟩ := new_blob w2 (fh 0); have o3 := o2.alloc (.cells #[.string ⟨(fh 0).k.toArray⟩, .slice (fh 0).a (fh 0).l (fh 0).c] 31); have H3 : HA (h + 1) h k f2 v2 (w2.alloc (.cells #[.string ⟨(fh 0).k.toArray⟩, .slice (fh 0).a (fh 0).l (fh 0).c] 31)) := ⟨H2.var.alloc _, H2.own.alloc _, H2.low⟩; have b3 := (hb.trans hb2).alloc (by omega) (.cells #[.string ⟨(fh 0).k.toArray⟩, .slice (fh 0).a (fh 0).l (fh 0).c] 31); have s3 : h + 1 ≤ (w2.alloc (.cells #[.string ⟨(fh 0).k.toArray⟩, .slice (fh 0).a (fh 0).l (fh 0).c] 31)).heap.size := (by simp; omega); have l0 := o3.cellAt ((m - 1) * 2) (by omega); rw [show (blobL m out)[(m - 1) * 2]? = some (.string ⟨(out (m - 1)).k.toArray⟩) from (blobL_get m out (m - 1) 0 (by omega) (by omega))] at l0; clear kp kl H hown hp hfr H2 o2))
              go_wp2
              go_quiet (fail)
              generalize hW : w2.alloc (.cells #[.string ⟨(fh 0).k.toArray⟩, .slice (fh 0).a (fh 0).l (fh 0).c] 31) = W at *
              replace nb : (W.drewN nq).cell? ⟨w2.heap.size, 0, none⟩ = some (.string ⟨(fh 0).k.toArray⟩) := nb
              replace nc : (W.drewN nq).cell? ⟨w2.heap.size, 1, none⟩ = some (.slice (fh 0).a (fh 0).l (fh 0).c) := nc
              have H4 := H3.drew nq
              have b4 := below_drewN b3 nq
              replace o3 : (W.drewN nq).ownsRow (h + 1) 31 2 (.slice (some ⟨gs, 0, none⟩) m cs) m (blobL m out) := o3
              replace s3 : h + 1 ≤ (W.drewN nq).heap.size := s3
              generalize W.drewN nq = W4 at *
              clear hW H3 b3 l0
              clear W
              go_wp2_with (at_builtin; refine wpList_append_own _ rfl _ _ 26 rfl (h + 1) 31 i0 (.agg #[.string ⟨#[]⟩, .slice none 0 0]) 2 40 Tryd.underlying26 hi0 hz0 hz1 hz2 rfl (by decide) _ _ _ rfl (o3.alloc _) ⟨W4.heap.size, 0, none⟩ 1 1 (blobC (fh 0)) rfl rfl (cell_two_new _ _ _ _) (blobC_one _) (by unfold maxLen; omega) (by omega) (by simp; omega) ?_; intro v' w5 hown5 hgrow _; obtain ⟨gq, cq, rfl, _, _⟩ := hown5.form (by omega))
              go_roundw
              case rel => exact ⟨m + 1, fun x => if x = m then fh 0 else out x, f2, v2, next_inv hk' hp0 hR' hsrt hle (fun _ => hne) hR2 hp2 H4 b4 s3 o3 ((Below.refl _ _).alloc (Nat.le_refl _) _) hgrow hown5⟩
              case measure => simp; omega
        · obtain rfl : m = i := by omega
          rw [Nat.sub_self] at kl
          rw [show ((0 : Nat) : Int) = 0 from rfl] at kl
          have hfin : Rearr m f out := hR.congr fun x hx => by rw [if_pos hx]
          have hN : NamesFit m f := ⟨hf, apart_of hfin hsrt⟩
          clear hp hle hR H
          go_wp2_with (first | (go_at_call 16; (with_reducible refine kl.mono ?_); rintro r w' ⟨rfl, hw'⟩; obtain rfl := hw'.symm))
          go_ret2
          exact ⟨by rw [hh]; exact hb, .inr ⟨hN, out, _, rfl, hfin, hsrt, by rw [hh]; exact hown.mono (by omega)⟩⟩
end Go.Proofs.YtkpcmfgeanlcnabDoor

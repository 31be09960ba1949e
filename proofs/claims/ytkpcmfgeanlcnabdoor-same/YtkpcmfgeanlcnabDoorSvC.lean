/-
  Which of n things a raw number speaks of; the numbers of parts.
-/
import Derived.Test.YtkpcmfgeanlcnabDoorLinesW
import Derived.Laws.Rows
import Derived.KernelRfl
import Derived.Laws.OwnMore
import Derived.Deep.AppendLies
namespace Go.Proofs.YtkpcmfgeanlcnabDoor
open Go.RowKit Go.Deep

def pickZ (c : Int) : Int := if c < 0 then -(c + 1) else c
def pickN (c : Int) (n : Nat) : Nat := (pickZ c).toNat % n
theorem pickN_lt (c : Int) {n : Nat} (h : 0 < n) : pickN c n < n := Nat.mod_lt _ h

set_option maxHeartbeats 400000 in
set_option maxRecDepth 100000 in
theorem pick_any (c : Int) (n : Nat) (z : Int) (hz : z = (n : Int)) (h0 : -9223372036854775808 ≤ c) (h1 : c < 9223372036854775808) (hn : 0 < n) (hn2 : n < 9223372036854775808) (w : World) :
    Calls Tryd.prog 8 #[.int .i64 c, .int .i64 z] w fun e w' => e = .returned (.int .i64 ((pickN c n : Nat) : Int)) ∧ w' = w := by
  subst hz
  by_cases hc : c < 0
  · obtain ⟨m, hm⟩ : ∃ m : Nat, c = -((m : Int) + 1) := ⟨(-(c + 1)).toNat, by omega⟩
    have e : -((c + 1).tmod n) = ((pickN c n : Nat) : Int) := by
      have e1 : c + 1 = -(m : Int) := by omega
      have e2 : pickZ c = (m : Int) := by unfold pickZ; rw [if_pos hc]; omega
      rw [e1, Int.neg_tmod, Int.neg_neg, pickN, e2]
      rfl
    clear hm
    go_enter Tryd.func8, Tryd.ntmps8
    go_wp2
    go_ret
    exact ⟨by rw [← e]; rfl, rfl⟩
  · obtain ⟨m, rfl⟩ : ∃ m : Nat, c = (m : Int) := ⟨c.toNat, by omega⟩
    have e : (m : Int) % n = ((pickN m n : Nat) : Int) := by
      have e2 : pickZ m = (m : Int) := by unfold pickZ; rw [if_neg hc]
      rw [pickN, e2]
      rfl
    go_enter Tryd.func8, Tryd.ntmps8
    go_wp2
    go_ret
    exact ⟨by rw [← e]; rfl, rfl⟩

def prm (k n c : Nat) : Value := .agg #[.int .i64 (k : Int), .int .i64 (n : Int), .int .i64 (c : Int)]
def nOf (n : Int) : Nat := 1 + pickN n 12
def kOf (k n : Int) : Nat := 1 + pickN k (nOf n)
theorem nOf_le (n : Int) : 1 ≤ nOf n ∧ nOf n ≤ 12 := by have := pickN_lt n (show 0 < 12 by omega); unfold nOf; omega
theorem kOf_le (k n : Int) : 1 ≤ kOf k n ∧ kOf k n ≤ nOf n := by have := nOf_le n; have := pickN_lt k (show 0 < nOf n by omega); unfold kOf; omega
def In64 (c : Int) : Prop := -9223372036854775808 ≤ c ∧ c < 9223372036854775808

set_option maxHeartbeats 1000000 in
set_option maxRecDepth 100000 in
theorem params_any (k n : Int) (hk : In64 k) (hn : In64 n) (w : World) :
    Calls Tryd.prog 4 #[.int .i64 k, .int .i64 n, .int .i64 0] w fun e w' => e = .returned (prm (kOf k n) (nOf n) 1) ∧ Below w.heap.size w w' := by
  have hN := nOf_le n
  have hK := kOf_le k n
  have e0 : pickN 0 9 = 0 := rfl
  have eN : (1 : Int) + ((pickN n 12 : Nat) : Int) = ((nOf n : Nat) : Int) := by simp [nOf]
  have eK : (1 : Int) + ((pickN k (nOf n) : Nat) : Int) = ((kOf k n : Nat) : Int) := by simp [kOf]
  have pN := pickN_lt n (show 0 < 12 by omega)
  have pK := pickN_lt k (show 0 < nOf n by omega)
  go_enter Tryd.func4, Tryd.ntmps4
  have c1 := pick_any n 12 12 rfl hn.1 hn.2 (by omega) (by omega)
  have c2 := pick_any k (nOf n) (nOf n : Int) rfl hk.1 hk.2 (by omega) (by omega)
  have c3 := pick_any 0 9 9 rfl (by omega) (by omega) (by omega) (by omega)
  generalize hpk : pickN k (nOf n) = pk at *
  generalize hpn : pickN n 12 = pn at *
  generalize hkk : kOf k n = kk at *
  generalize hnn : nOf n = nn at *
  clear hpk hpn hkk hnn
  go_wp2_with (first
    | (go_at_call 8; (with_reducible refine (c1 _).mono ?_); rintro e w' ⟨rfl, hw'⟩; obtain rfl := hw'.symm)
    | (go_at_call 8; (with_reducible refine (c2 _).mono ?_); rintro e w' ⟨rfl, hw'⟩; obtain rfl := hw'.symm)
    | (go_at_call 8; (with_reducible refine (c3 _).mono ?_); rintro e w' ⟨rfl, hw'⟩; obtain rfl := hw'.symm))
  have hF : ((w.alloc (Obj.cells #[.int .i64 kk, .int .i64 nn, .int .i64 1] 24)).alloc (Obj.cells #[.int .i64 kk, .int .i64 nn, .int .i64 1] 24)).heap[w.heap.size]? = some (.cells #[.int .i64 kk, .int .i64 nn, .int .i64 1] 24 (0, 0)) := by
    show ((w.heap.push _).push _)[w.heap.size]? = _
    rw [Array.getElem?_push, if_neg (by rw [Array.size_push]; omega), Array.getElem?_push, if_pos rfl]
  refine bodyPost_ret (results_cell_row (p := 6) rfl _ _ w.heap.size 24 _ (0, 0) _ (by rfl) hF Tryd.underlying24 rfl (by kernel_rfl)) rfl ?_
  exact ⟨rfl, ((Below.refl _ _).alloc (Nat.le_refl _) _).alloc (by simp) _⟩
end Go.Proofs.YtkpcmfgeanlcnabDoor

/-
  An order of n things by raw numbers.
-/
namespace Go.Proofs.YtkpcmfgeanlcnabDoor
open Go.RowKit Go.Deep

/-- A list of numbers, anywhere. -/
structure Ints (w : World) (v : Value) (zs : List Int) : Prop where
  in64 : ∀ z ∈ zs, In64 z
  lies : (∃ cap bo, zs = [] ∧ v = .slice bo 0 cap) ∨ ∃ b off cap, v = .slice (some ⟨b, off, none⟩) zs.length cap ∧ b < w.heap.size ∧ ∀ j z, zs[j]? = some z → w.cell? ⟨b, off + j, none⟩ = some (.int .i64 z)
theorem Ints.below {w w' : World} {v : Value} {zs : List Int} (h : Ints w v zs) (hb : Below w.heap.size w w') : Ints w' v zs := by
  refine ⟨h.in64, ?_⟩
  rcases h.lies with h1 | ⟨b, off, cap, h1, h2, h3⟩
  · exact .inl h1
  · exact .inr ⟨b, off, cap, h1, Nat.lt_of_lt_of_le h2 hb.size, fun j z hz => by rw [hb.cell (p := ⟨b, off + j, none⟩) h2]; exact h3 j z hz⟩

theorem Ints.open {w : World} {v : Value} {zs : List Int} (h : Ints w v zs) : ∃ bo cap, v = .slice bo zs.length cap ∧ (0 < zs.length → ∃ b off, bo = some ⟨b, off, none⟩ ∧ b < w.heap.size ∧ ∀ j z, zs[j]? = some z → w.cell? ⟨b, off + j, none⟩ = some (.int .i64 z)) := by
  rcases h.lies with ⟨cap, bo, rfl, rfl⟩ | ⟨b, off, cap, h1, h2, h3⟩
  · exact ⟨bo, cap, rfl, fun h => absurd h (by simp)⟩
  · exact ⟨_, cap, h1, fun _ => ⟨b, off, rfl, h2, h3⟩⟩

/-- 0 to n - 1, each once. -/
structure Once (n : Nat) (xs : List Nat) : Prop where
  len : xs.length = n
  lt : ∀ (i x : Nat), xs[i]? = some x → x < n
  inj : ∀ (i j x : Nat), xs[i]? = some x → xs[j]? = some x → i = j
theorem once_range (n : Nat) : Once n (List.range n) := by
  refine ⟨by simp, fun i x h => ?_, fun i j x h h' => ?_⟩
  · rw [List.getElem?_eq_some_iff] at h
    obtain ⟨h1, h2⟩ := h
    simp at h1 h2
    omega
  · rw [List.getElem?_eq_some_iff] at h h'
    obtain ⟨h1, h2⟩ := h
    obtain ⟨h3, h4⟩ := h'
    simp at h2 h4
    omega
def swapL (xs : List Nat) (a b : Nat) : List Nat := (xs.set a (xs.getD b 0)).set b (xs.getD a 0)
theorem Once.swap {n : Nat} {xs : List Nat} (h : Once n xs) {a b : Nat} (ha : a < n) (hb : b < n) : Once n (swapL xs a b) := by
  have hl := h.len
  have ea : xs[a]? = some (xs.getD a 0) := by rw [List.getD_eq_getElem?_getD, List.getElem?_eq_getElem (by omega)]; rfl
  have eb : xs[b]? = some (xs.getD b 0) := by rw [List.getD_eq_getElem?_getD, List.getElem?_eq_getElem (by omega)]; rfl
  -- what lies at i lay at sw i
  have sw : ∀ (i x : Nat), (swapL xs a b)[i]? = some x → xs[if i = b then a else if i = a then b else i]? = some x := by
    intro i x hx
    unfold swapL at hx
    rw [List.getElem?_set] at hx
    by_cases hib : b = i
    · subst hib
      rw [if_pos rfl] at hx
      rw [if_pos rfl]
      split at hx
      · cases hx; exact ea
      · cases hx
    · rw [if_neg hib, List.getElem?_set] at hx
      rw [if_neg (fun e => hib e.symm)]
      by_cases hia : a = i
      · subst hia
        rw [if_pos rfl] at hx
        rw [if_pos rfl]
        split at hx
        · cases hx; exact eb
        · cases hx
      · rw [if_neg hia] at hx
        rw [if_neg (fun e => hia e.symm)]
        exact hx
  refine ⟨by simp [swapL, hl], fun i x hx => h.lt _ x (sw i x hx), fun i j x hi hj => ?_⟩
  have := h.inj _ _ x (sw i x hi) (sw j x hj)
  split at this <;> split at this <;> (try split at this) <;> (try split at this) <;> omega

def natI (xs : List Nat) : List Value := xs.map fun x => .int .i64 ((x : Nat) : Int)
theorem natI_get (xs : List Nat) (i : Nat) (h : i < xs.length) : (natI xs)[i]? = some (.int .i64 ((xs.getD i 0 : Nat) : Int)) := by
  unfold natI
  rw [List.getElem?_map, List.getElem?_eq_getElem h, List.getD_eq_getElem?_getD, List.getElem?_eq_getElem h]
  rfl
theorem natI_swap (xs : List Nat) (a b : Nat) : ((natI xs).set a (.int .i64 ((xs.getD b 0 : Nat) : Int))).set b (.int .i64 ((xs.getD a 0 : Nat) : Int)) = natI (swapL xs a b) := by
  unfold natI swapL
  rw [List.map_set, List.map_set]
theorem Tryd.infoI : (Tryd.prog.info? 3).map (fun i => (i.zero, i.size, i.bytes)) = some (some (.int .i64 0), 1, 8) := by kernel_rfl
theorem one_i64 (x : Int) : ∀ u ∈ [Value.int .i64 x], u.oneCell' = true := by intro u hu; simp at hu; subst hu; rfl

set_option maxHeartbeats 2000000 in
set_option maxRecDepth 100000 in
theorem chosen_any (n : Nat) (vo : Value) (zs : List Int) (hn : 0 < n) (hn2 : n ≤ 12) (w : World) (hz : Ints w vo zs) (hlen : zs.length < 9223372036854775807) :
    Calls Tryd.prog 6 #[.int .i64 (n : Int), vo] w fun e w' => ∃ v xs, e = .returned v ∧ Once n xs ∧ w'.ownsRow w.heap.size 3 1 v n (natI xs) ∧ Below w.heap.size w w' := by
  obtain ⟨i0, hi0, hz0, hz1, hz2⟩ := info_parts Tryd.infoI
  go_enter Tryd.func6, Tryd.ntmps6
  go_wp2
  go_loopw [5, 6] (fun v vi wr => ∃ c : Nat, c ≤ n ∧ vi = .int .i64 (c : Int) ∧ wr.ownsRow w.heap.size 3 1 v c (natI (List.range c)) ∧ Below w.heap.size w wr) (fun _ i _ => n - (intOf i).toNat)
  case atStart => exact ⟨0, by omega, rfl, World.ownsRow_nil _ _ _ _, Below.refl _ _⟩
  case round =>
    obtain ⟨c, hc, rfl, hown, hbel⟩ := hrel
    have hsz := hbel.size
    by_cases hlt : c < n
    · go_wp2_with (at_builtin; refine wpList_append_own _ rfl _ _ 22 rfl w.heap.size 3 i0 (.int .i64 0) 1 8 Tryd.underlying22 hi0 hz0 hz1 hz2 rfl (by decide) _ _ _ rfl (hown.alloc _) ⟨wr.heap.size, 0, none⟩ 1 1 [.int .i64 (c : Int)] rfl rfl (cell_one_new _ _ _) (one_i64 _) (by unfold maxLen; omega) (by omega) (by simp; omega) ?_; intro v' w1 hown' hgrow _)
      have hown2 : w1.ownsRow w.heap.size 3 1 v' (c + 1) (natI (List.range (c + 1))) := by
        rw [List.range_succ, natI, List.map_append]
        exact hown'
      have hb2 := below_append hbel hown hgrow
      clear hown' hgrow
      go_wp2
      go_roundw
      case rel => exact ⟨c + 1, by omega, by go_num, hown2, hb2⟩
      case measure => simp [intOf]; omega
    · have e : c = n := by omega
      subst e
      obtain ⟨g, cap, rfl, hg1, hg2⟩ := hown.form hn
      have hst : ∃ xs, Once c xs ∧ wr.ownsRow w.heap.size 3 1 (.slice (some ⟨g, 0, none⟩) c cap) c (natI xs) := ⟨_, once_range c, hown⟩
      clear hown
      have hcc := hn2
      obtain ⟨bo, cap2, rfl, hop⟩ := hz.open
      go_wp2
      go_loopw [7, 8, 9] (fun vi _ _ wq => ∃ j : Nat, j ≤ zs.length ∧ vi = .int .i64 (j : Int) ∧ (∃ xs, Once c xs ∧ wq.ownsRow w.heap.size 3 1 (.slice (some ⟨g, 0, none⟩) c cap) c (natI xs)) ∧ Below w.heap.size w wq) (fun i _ _ _ => zs.length - (intOf i).toNat)
      case atStart => exact ⟨0, by omega, rfl, hst, hbel⟩
      case round =>
        clear hst hbel
        obtain ⟨j, hj, rfl, ⟨xs, hxs, hown⟩, hbel⟩ := hrel
        by_cases hlt : j < zs.length
        · obtain ⟨b, off, rfl, hb, hcell⟩ := hop (by omega)
          have hlt' : (j : Int) < (zs.length : Int) := by omega
          have hzj : zs[j]? = some (zs.getD j 0) := by rw [List.getD_eq_getElem?_getD, List.getElem?_eq_getElem hlt]; rfl
          have hc0 := hcell j _ hzj
          rw [← hbel.cell (p := ⟨b, off + j, none⟩) hb] at hc0
          have hin := hz.in64 _ (List.mem_of_getElem? hzj)
          have hp := pick_any (zs.getD j 0) c c rfl hin.1 hin.2 hn (by omega)
          have hpl := pickN_lt (zs.getD j 0) hn
          generalize zs.getD j 0 = z at hc0 hin hp hpl hzj
          generalize pickN z c = q at hp hpl
          have hm := Nat.mod_lt j hn
          have em : (j : Int) % (c : Int) = ((j % c : Nat) : Int) := rfl
          generalize j % c = p at hm em
          have l1 : p < xs.length := by rw [hxs.len]; exact hm
          have l2 : q < xs.length := by rw [hxs.len]; exact hpl
          have hxp := natI_get xs p l1
          have hxq := natI_get xs q l2
          rw [← hown.cellAt p (by omega)] at hxp
          rw [← hown.cellAt q (by omega)] at hxq
          have f1 := hown.frozenAt p
          have f2 := hown.frozenAt q
          have hsw := hxs.swap hm hpl
          have hst1 := (hown.stored p (.int .i64 ((xs.getD q 0 : Nat) : Int))).1
          have hst2 := (hst1.stored q (.int .i64 ((xs.getD p 0 : Nat) : Int))).1
          rw [natI_swap] at hst2
          have d1 : ∃ y, (wr.setCell ⟨g, p, none⟩ (.int .i64 ((xs.getD q 0 : Nat) : Int))).cell? ⟨g, q, none⟩ = some y := by
            rw [hst1.cellAt q (by omega)]
            exact ⟨_, List.getElem?_eq_getElem (by simp [natI]; exact l2)⟩
          have d2 := hst1.frozenAt q
          obtain ⟨y, d1⟩ := d1
          generalize xs.getD p 0 = xp at *
          generalize xs.getD q 0 = xq at *
          clear hst1 hzj hin hxs hop hz l1 l2
          go_wp2_with (first | (go_at_call 8; (with_reducible refine (hp _).mono ?_); rintro e w' ⟨rfl, hw'⟩; obtain rfl := hw'.symm; simp only [em]))
          have hb3 : Below w.heap.size w ((wr.setCell ⟨g, p, none⟩ (.int .i64 (xq : Int))).setCell ⟨g, q, none⟩ (.int .i64 (xp : Int))) := (hbel.setCell hg1 _).setCell hg1 _
          go_region
          generalize (wr.setCell ⟨g, p, none⟩ (.int .i64 (xq : Int))).setCell ⟨g, q, none⟩ (.int .i64 (xp : Int)) = wz at hst2 hb3 ⊢
          have hst3 := hst2.drew
          have hb4 : Below w.heap.size w wz.drew := hb3.drew
          clear hst2 hb3
          go_wp2
          go_roundw
          case rel => exact ⟨j + 1, by omega, by go_num, ⟨_, hsw, hst3⟩, hb4⟩
          case measure => simp [intOf]; omega
        · have e : j = zs.length := by omega
          subst e
          go_wp2
          go_ret
          exact ⟨_, xs, rfl, hxs, hown, hbel⟩
end Go.Proofs.YtkpcmfgeanlcnabDoor

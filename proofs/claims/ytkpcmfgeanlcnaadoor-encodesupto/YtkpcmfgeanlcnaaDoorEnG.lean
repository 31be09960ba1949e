/-
  When two rows of bytes are told to be the same.
-/
import Derived.Test.YtkpcmfgeanlcnaaDoorRowW
import Derived.Test.YtkpcmfgeanlcnaaDoorEnD
namespace Go.Proofs.YtkpcmfgeanlcnaaDoor
open Go.RowKit Go.Deep

theorem add_none (b off j : Nat) : (⟨b, off, none⟩ : Addr).add j = ⟨b, off + j, none⟩ := by
  unfold Addr.add
  by_cases h : j = 0 <;> simp [h]
theorem add_block (a : Addr) (j : Nat) : (a.add j).block = a.block := by
  unfold Addr.add
  by_cases h : j = 0 <;> simp [h]
/-- The slice v holds just these bytes. -/
def Holds8 (w : World) (v : Value) (l : List UInt8) : Prop :=
  (v = .slice none 0 0 ∧ l = []) ∨ ∃ a cap, v = .slice (some a) l.length cap ∧ ∀ j (hj : j < l.length), w.cell? (a.add j) = some (.int .u8 (l[j].toNat : Int))

theorem Holds8.string {w : World} {v : Value} {l : List UInt8} (h : Holds8 w v l) : (convert 24 9 v).run Tryd.prog w = .ok (.string ⟨l.toArray⟩) w := by
  rcases h with ⟨rfl, rfl⟩ | ⟨a, cap, rfl, hc⟩
  · rw [run_convert_bytes_string w 24 9 5 none 0 0 Tryd.underlying24 Tryd.underlying5 Tryd.underlying9]
    rfl
  · exact run_convert_bytes_back w 24 9 5 a cap l Tryd.underlying24 Tryd.underlying5 Tryd.underlying9 hc
/-- It stands in every world that has these cells. -/
theorem Holds8.later {w w' : World} {v : Value} {l : List UInt8} {B : Nat} (h : Holds8 w v l) (hb : Below B w w') (hv : ∀ a n c, v = .slice (some a) n c → a.block < B) : Holds8 w' v l := by
  rcases h with h | ⟨a, cap, rfl, hc⟩
  · exact .inl h
  · refine .inr ⟨a, cap, rfl, fun j hj => ?_⟩
    rw [hb.cell (p := a.add j) (by rw [add_block]; exact hv a _ _ rfl)]
    exact hc j hj

/-- The bytes of a function on places. -/
def u8s (n : Nat) (f : Nat → Nat) : List UInt8 := (List.range n).map fun j => UInt8.ofNat (f j)
theorem u8s_length (n : Nat) (f : Nat → Nat) : (u8s n f).length = n := by simp [u8s]
theorem u8s_at {n : Nat} {f : Nat → Nat} (hf : ∀ j, j < n → f j < 256) (j : Nat) (hj : j < (u8s n f).length) : ((u8s n f)[j].toNat : Int) = (f j : Int) := by
  have hj' : j < n := by simpa [u8s] using hj
  have := hf j hj'
  simp only [u8s, List.getElem_map, List.getElem_range]
  rw [UInt8.toNat_ofNat']
  have e : f j % 2 ^ 8 = f j := Nat.mod_eq_of_lt (by simpa using this)
  rw [e]
theorem holds8_rowIs {w : World} {b n : Nat} {f : Nat → Nat} (h : w.rowIs b 5 n (fun j => .int .u8 (f j : Nat))) (hf : ∀ j, j < n → f j < 256) (cap : Nat) : Holds8 w (.slice (some ⟨b, 0, none⟩) n cap) (u8s n f) := by
  refine .inr ⟨⟨b, 0, none⟩, cap, by rw [u8s_length], fun j hj => ?_⟩
  rw [u8s_at hf j hj]
  have hj' : j < n := by simpa [u8s] using hj
  have := h.cell hj'
  rw [add_none, Nat.zero_add]
  exact this
theorem holds8_owns {w : World} {base n : Nat} {v : Value} {f : Nat → Nat} (h : w.ownsRow base 5 1 v n ((List.range n).map fun j => .int .u8 (f j : Nat))) (hf : ∀ j, j < n → f j < 256) : Holds8 w v (u8s n f) := by
  rcases h.2 with ⟨rfl, rfl⟩ | ⟨g, cap, cur, rfl, _, _, _, _, _, _⟩
  · exact .inl ⟨rfl, by simp [u8s]⟩
  · refine .inr ⟨⟨g, 0, none⟩, cap, by rw [u8s_length], fun j hj => ?_⟩
    have hj' : j < n := by simpa [u8s] using hj
    rw [u8s_at hf j hj]
    have := h.cellAt j (by omega)
    simp only [List.getElem?_map, List.getElem?_range hj'] at this
    rw [add_none, Nat.zero_add]
    exact this

theorem ret_bool {a b : Bool} (h : a = b) : Ending.returned (.bool a) = .returned (.bool b) := by rw [h]
set_option maxHeartbeats 400000 in
set_option maxRecDepth 100000 in
theorem same_any (va vb : Value) (l m : List UInt8) (w : World) (ha : Holds8 w va l) (hb : Holds8 w vb m) :
    Calls Tryd.prog 27 #[va, vb] w fun e w' => e = .returned (.bool (decide (l = m))) ∧ w' = w := by
  have h1 := ha.string
  have h2 := hb.string
  clear ha hb
  go_enter Tryd.func27, Tryd.ntmps27
  go_wp2
  go_ret
  exact ⟨ret_bool (by rw [Bool.eq_iff_iff]; simp), rfl⟩

theorem owns_snoc {w : World} {base e c : Nat} {v : Value} {f : Nat → Nat} {x : Nat} (h : w.ownsRow base e 1 v (c + 1) ((List.range c).map (fun j => Value.int .u8 (f j : Nat)) ++ [.int .u8 (x : Int)])) (hx : f c = x) :
    w.ownsRow base e 1 v (c + 1) ((List.range (c + 1)).map fun j => .int .u8 (f j : Nat)) := by
  rw [List.range_succ, List.map_append]
  simp only [List.map_cons, List.map_nil]
  rw [hx]
  exact h

theorem one_u8 (x : Int) : ∀ u ∈ [Value.int .u8 x], u.oneCell' = true := by intro u hu; simp at hu; subst hu; rfl
theorem below_append {w wr w1 : World} {e c : Nat} {v : Value} {xs : List Value} {o : Obj} (h : Below w.heap.size w wr) (hown : wr.ownsRow w.heap.size e 1 v c xs) (hg : (wr.alloc o).grownBy w1 v.ownBlock) : Below w.heap.size w w1 :=
  (h.alloc h.size o).grown hg (by have := h.size; simp; omega) (fun k hk => (hown.lt k hk).1)

set_option maxHeartbeats 1600000 in
set_option maxRecDepth 100000 in
theorem rrow_any (k i : Nat) (hk : k ≤ 128) (hi : i < 128) (w : World) :
    Calls Tryd.prog 68 #[.int .i64 (k : Int), .int .i64 (i : Int)] w fun e w' => ∃ v, e = .returned v ∧ w'.ownsRow w.heap.size 5 1 v k ((List.range k).map fun j => .int .u8 (rowV k i j : Nat)) ∧ Below w.heap.size w w' := by
  obtain ⟨i0, hi0, hz0, hz1, hz2⟩ := info_parts Tryd.infoB
  go_enter Tryd.func68, Tryd.ntmps68
  go_wp2
  go_loopw [5, 6, 7] (fun v vi _ wr => ∃ c : Nat, c ≤ k ∧ vi = .int .i64 (c : Int) ∧ wr.ownsRow w.heap.size 5 1 v c ((List.range c).map fun j => .int .u8 (rowV k i j : Nat)) ∧ Below w.heap.size w wr) (fun _ i _ _ => k - (intOf i).toNat)
  case atStart => exact ⟨0, by omega, rfl, World.ownsRow_nil _ _ _ _, Below.refl _ _⟩
  case round =>
    obtain ⟨c, hc, rfl, hown, hbel⟩ := hrel
    have hsz := hbel.size
    by_cases hlt : c < k
    · by_cases hik : i < k
      · by_cases hci : c = i
        · have EX : Hid (rowV k i c = 1) := by
            show rowV k i c = 1
            unfold rowV; rw [if_pos hik, if_pos hci]
          have hci' : ((i : Int) == (c : Int)) = true := by simp; omega
          clear hci
          go_wp2_with (at_builtin; refine wpList_append_own _ rfl _ _ 24 rfl w.heap.size 5 i0 (.int .u8 0) 1 1 Tryd.underlying24 hi0 hz0 hz1 hz2 rfl (by decide) _ _ _ rfl (hown.alloc _) ⟨wr.heap.size, 0, none⟩ 1 1 [.int .u8 1] rfl rfl (cell_one_new _ _ _) (one_u8 _) (by unfold maxLen; omega) (by omega) (by simp; omega) ?_; intro v' w1 hown' hgrow _)
          have hown2 := owns_snoc (f := rowV k i) hown' EX.out
          have hb2 := below_append hbel hown hgrow
          clear hown' hgrow
          go_wp2
          go_roundw
          case rel => exact ⟨c + 1, by omega, by go_num, hown2, hb2⟩
          case measure => simp [intOf]; omega
        · have EX : Hid (rowV k i c = 0) := by
            show rowV k i c = 0
            unfold rowV; rw [if_pos hik, if_neg hci]
          have hci' : ((i : Int) == (c : Int)) = false := by simp; omega
          clear hci
          go_wp2_with (at_builtin; refine wpList_append_own _ rfl _ _ 24 rfl w.heap.size 5 i0 (.int .u8 0) 1 1 Tryd.underlying24 hi0 hz0 hz1 hz2 rfl (by decide) _ _ _ rfl (hown.alloc _) ⟨wr.heap.size, 0, none⟩ 1 1 [.int .u8 0] rfl rfl (cell_one_new _ _ _) (one_u8 _) (by unfold maxLen; omega) (by omega) (by simp; omega) ?_; intro v' w1 hown' hgrow _)
          have hown2 := owns_snoc (f := rowV k i) hown' EX.out
          have hb2 := below_append hbel hown hgrow
          clear hown' hgrow
          go_wp2
          go_roundw
          case rel => exact ⟨c + 1, by omega, by go_num, hown2, hb2⟩
          case measure => simp [intOf]; omega
      · have hx : bits .xor .i64 (i : Int) (c : Int) = ((i ^^^ c : Nat) : Int) := i64_xor_nat _ _ (by omega) (by omega)
        have hxl := xor_lt128 hi (show c < 128 by omega)
        obtain ⟨x, ex⟩ : ∃ x, i ^^^ c = x := ⟨_, rfl⟩
        rw [ex] at hx hxl
        have EX : Hid (rowV k i c = inv x) := by
          show rowV k i c = inv x
          unfold rowV; rw [if_neg hik, ex, Nat.mod_eq_of_lt (by omega)]
        clear ex
        go_wp2_with (first | (go_at_call 99; refine (rinv_any _ (by omega) _).mono ?_; rintro e w' ⟨rfl, hw'⟩; obtain rfl := hw'.symm) | (at_builtin; refine wpList_append_own _ rfl _ _ 24 rfl w.heap.size 5 i0 (.int .u8 0) 1 1 Tryd.underlying24 hi0 hz0 hz1 hz2 rfl (by decide) _ _ _ rfl (hown.alloc _) ⟨wr.heap.size, 0, none⟩ 1 1 [.int .u8 (inv x : Nat)] rfl rfl (cell_one_new _ _ _) (one_u8 _) (by unfold maxLen; omega) (by omega) (by simp; omega) ?_; intro v' w1 hown' hgrow _))
        have hown2 := owns_snoc (f := rowV k i) hown' EX.out
        have hb2 := below_append hbel hown hgrow
        clear hown' hgrow
        go_wp2
        go_roundw
        case rel => exact ⟨c + 1, by omega, by go_num, hown2, hb2⟩
        case measure => simp [intOf]; omega
    · have e : c = k := by omega
      subst e
      go_wp2
      go_ret
      exact ⟨_, rfl, hown, hbel⟩
end Go.Proofs.YtkpcmfgeanlcnaaDoor

/-
  The document's mixing of columns: run alone.
-/
namespace Go.Proofs.YtkpcmfgeanlcnaaDoor
open Go.RowKit Go.Deep Go.Hp

def dotN (r x : Nat → Nat) : Nat → Nat
  | 0 => 0
  | j + 1 => dotN r x j ^^^ mul (r j) (x j)
theorem dotN_lt {r x : Nat → Nat} (hr : ∀ j, r j < 256) : ∀ n, dotN r x n < 256
  | 0 => by simp [dotN]
  | n + 1 => Nat.xor_lt_two_pow (n := 8) (dotN_lt hr n) (mul_lt (hr n))

theorem drewN_addD (w : World) (j n : Nat) : (w.drewN j).drewN n = w.drewN (j + n) := by simp [World.drewN, Nat.add_assoc]
/-- Columns where they lie. -/
structure Cls (w : World) (k L bP : Nat) (a : Nat → Option Addr) (bl cp : Nat → Nat) (x : Nat → Nat → Nat) : Prop where
  col : ∀ j, j < k → w.cell? ⟨bP, j, none⟩ = some (.slice (a j) L (cp j))
  at_ : ∀ j m, j < k → m < L → a j = some ⟨bl j, 0, none⟩ ∧ w.cell? ⟨bl j, m, none⟩ = some (.int .u8 ((x j m : Nat) : Int))

set_option maxHeartbeats 4000000 in
set_option maxRecDepth 100000 in
theorem times_any (k L m br cr bP cP : Nat) (r : Nat → Nat) (a : Nat → Option Addr) (bl cp : Nat → Nat) (x : Nat → Nat → Nat) (w : World) (hr : ∀ j, j < k → w.cell? ⟨br, j, none⟩ = some (.int .u8 ((r j : Nat) : Int))) (hr8 : ∀ j, r j < 256) (hx8 : ∀ j m, x j m < 256) (hC : Cls w k L bP a bl cp x) (hm : m < L) (hk : k ≤ 128) (_hL : L ≤ 1048576) :
    Calls Tryd.prog 98 #[.slice (some ⟨br, 0, none⟩) k cr, .slice (some ⟨bP, 0, none⟩) k cP, .int .i64 ((m : Nat) : Int)] w fun e w' => e = .returned (.int .u8 ((dotN r (fun j => x j m) k : Nat) : Int)) ∧ ∃ q, w' = w.drewN q := by
  go_enter Tryd.func98, Tryd.ntmps98
  go_wp2
  go_loopw [7, 8] (fun vs vi wr => ∃ i q : Nat, i ≤ k ∧ vi = .int .i64 ((i : Nat) : Int) ∧ vs = .int .u8 ((dotN r (fun j => x j m) i : Nat) : Int) ∧ wr = w.drewN q) (fun _ vi _ => k - (intOf vi).toNat)
  case atStart => exact ⟨0, 0, by omega, rfl, rfl, rfl⟩
  case round =>
    obtain ⟨i, q, hi, rfl, rfl, hW⟩ := hrel
    by_cases hlt : i < k
    · have hlt' : (i : Int) < (k : Int) := by omega
      have hm' : (m : Int) < (L : Int) := by omega
      have c0 : wr.cell? ⟨br, i, none⟩ = some (.int .u8 ((r i : Nat) : Int)) := by rw [hW]; exact hr i hlt
      have c1 : wr.cell? ⟨bP, i, none⟩ = some (.slice (a i) L (cp i)) := by rw [hW]; exact hC.col i hlt
      obtain ⟨ea, c2'⟩ := hC.at_ i m hlt hm
      rw [ea] at c1
      have c2 : wr.cell? ⟨bl i, m, none⟩ = some (.int .u8 ((x i m : Nat) : Int)) := by rw [hW]; exact c2'
      have km := rmul_eq (r i) (x i m) (hr8 i) (hx8 i m)
      have hd := dotN_lt (x := fun j => x j m) hr8 i
      have hml := mul_lt (b := x i m) (hr8 i)
      have hstep : dotN r (fun j => x j m) (i + 1) = dotN r (fun j => x j m) i ^^^ mul (r i) (x i m) := rfl
      obtain ⟨D1, e1⟩ : ∃ D, dotN r (fun j => x j m) i = D := ⟨_, rfl⟩
      obtain ⟨M1, e2⟩ : ∃ D, mul (r i) (x i m) = D := ⟨_, rfl⟩
      rw [e2] at km hml hstep
      rw [e1] at hd hstep
      have HS : Hid _ := hstep
      have HW : Hid (wr = w.drewN q) := hW
      clear hstep c2' ea hW
      rw [e1]
      clear e1 e2
      go_wp2
      go_quiet ((go_at_call 133; exact Calls.quiet_of_same (km _)))
      have hxo := u8_xor_nat D1 M1 hd hml
      go_wp2
      go_roundw
      case rel => exact ⟨i + 1, q + nq, by omega, by go_num, by rw [HS.out, hxo], by rw [HW.out, drewN_addD]⟩
      case measure => simp [intOf]; omega
    · obtain rfl : i = k := by omega
      have hnl : ¬ ((i : Int) < (i : Int)) := by omega
      go_wp2
      go_ret
      exact ⟨rfl, q, rfl⟩

theorem Cls.heap {w w' : World} {k L bP : Nat} {a : Nat → Option Addr} {bl cp : Nat → Nat} {x : Nat → Nat → Nat} (h : Cls w k L bP a bl cp x) (hb : ∀ {b o : Nat} {u : Value}, w.cell? ⟨b, o, none⟩ = some u → w'.cell? ⟨b, o, none⟩ = some u) : Cls w' k L bP a bl cp x :=
  ⟨fun j hj => hb (h.col j hj), fun j m hj hm => ⟨(h.at_ j m hj hm).1, hb (h.at_ j m hj hm).2⟩⟩
theorem below_cell {w w' : World} {B : Nat} (h : Below B w w') (hB : w.heap.size ≤ B) {b o : Nat} {u : Value} (hc : w.cell? ⟨b, o, none⟩ = some u) : w'.cell? ⟨b, o, none⟩ = some u :=
  (h.cell (p := ⟨b, o, none⟩) (Nat.lt_of_lt_of_le (cell_lt hc) hB)).trans hc
def numsV (n : Nat) (f : Nat → Nat) : List Value := (List.range n).map fun j => .int .u8 ((f j : Nat) : Int)
theorem numsV_succ (n : Nat) (f : Nat → Nat) : numsV (n + 1) f = numsV n f ++ [.int .u8 ((f n : Nat) : Int)] := by simp [numsV, List.range_succ]
theorem numsV_length (n : Nat) (f : Nat → Nat) : (numsV n f).length = n := by simp [numsV]
theorem numsV_get (n : Nat) (f : Nat → Nat) {i : Nat} (hi : i < n) : (numsV n f)[i]? = some (.int .u8 ((f i : Nat) : Int)) := by simp [numsV, hi]

set_option maxHeartbeats 4000000 in
set_option maxRecDepth 100000 in
theorem mixed_any (k L br cr bP cP : Nat) (r : Nat → Nat) (a : Nat → Option Addr) (bl cp : Nat → Nat) (x : Nat → Nat → Nat) (w : World) (hr : ∀ j, j < k → w.cell? ⟨br, j, none⟩ = some (.int .u8 ((r j : Nat) : Int))) (hr8 : ∀ j, r j < 256) (hx8 : ∀ j m, x j m < 256) (hC : Cls w k L bP a bl cp x) (hk : k ≤ 128) (hL : L ≤ 1048576) :
    Calls Tryd.prog 67 #[.slice (some ⟨br, 0, none⟩) k cr, .slice (some ⟨bP, 0, none⟩) k cP, .int .i64 ((L : Nat) : Int)] w fun e w' => ∃ v, e = .returned v ∧ w'.ownsRow w.heap.size 5 1 v L (numsV L fun m => dotN r (fun j => x j m) k) ∧ Below w.heap.size w w' := by
  obtain ⟨i0, hi0, hz0, hz1, hz2⟩ := info_parts infoB8
  have p0 : w.ownsRow w.heap.size 5 1 (.slice none 0 0) 0 (numsV 0 fun m => dotN r (fun j => x j m) k) := World.ownsRow_nil _ _ _ _
  go_enter Tryd.func67, Tryd.ntmps67
  go_wp2
  generalize hh : w.heap.size = h at *
  go_loopw [7, 8] (fun vs vi wr => ∃ m : Nat, m ≤ L ∧ vi = .int .i64 ((m : Nat) : Int) ∧ wr.ownsRow h 5 1 vs m (numsV m fun m => dotN r (fun j => x j m) k) ∧ Below h w wr) (fun _ vi _ => L - (intOf vi).toNat)
  case atStart => exact ⟨0, by omega, rfl, p0, Below.refl _ _⟩
  case round =>
    clear p0
    obtain ⟨m, hm, rfl, hp, hb⟩ := hrel
    have hs : h ≤ wr.heap.size := hh ▸ hb.size
    by_cases hlt : m < L
    · have hlt' : (m : Int) < (L : Int) := by omega
      have up : ∀ {b o : Nat} {u : Value}, w.cell? ⟨b, o, none⟩ = some u → wr.cell? ⟨b, o, none⟩ = some u := fun hc => below_cell hb (by omega) hc
      have kt := times_any k L m br cr bP cP r a bl cp x wr (fun j hj => up (hr j hj)) hr8 hx8 (hC.heap up) hlt hk hL
      have hstep := numsV_succ m fun m => dotN r (fun j => x j m) k
      generalize hD : dotN r (fun j => x j m) k = D at *
      have HS : Hid _ := hstep
      clear hstep up
      go_wp2_with (first
        | (go_at_call 98; (with_reducible refine kt.mono ?_); rintro e w1 ⟨rfl, q, hq⟩; have hp1 : w1.ownsRow h 5 1 u7 m (numsV m fun m => dotN r (fun j => x j m) k) := (by rw [hq]; exact hp); have hb1 : Below h w w1 := (by rw [hq]; exact below_drewN hb q); have hs1 : h ≤ w1.heap.size := (by rw [hq]; exact hs); clear hp hb hs hq kt)
        | (at_builtin; refine wpList_append_own _ rfl _ _ 24 rfl h 5 i0 (.int .u8 0) 1 1 Tryd.underlying24 hi0 hz0 hz1 hz2 rfl (by decide) _ _ _ rfl (hp1.alloc _) ⟨w1.heap.size, 0, none⟩ 1 1 [.int .u8 ((D : Nat) : Int)] rfl rfl (cell_one_newD _ _ _) (one_u8 _) (by unfold maxLen; omega) (by omega) (by simp; omega) ?_; intro v2 w2 hp2 hgrow _; have hb2 := hb1.trans (app_below hp1 hs1 ((Below.refl w1.heap.size w1).alloc (Nat.le_refl _) _) hgrow (Nat.le_refl _)); clear hgrow hp1 hb1))
      go_roundw
      case rel => exact ⟨m + 1, by omega, by go_num, by rw [HS.out]; exact hp2, hb2⟩
      case measure => simp [intOf]; omega
    · obtain rfl : m = L := by omega
      have hnl : ¬ ((m : Int) < (m : Int)) := by omega
      go_wp2
      go_ret
      exact ⟨_, rfl, hp, hb⟩
end Go.Proofs.YtkpcmfgeanlcnaaDoor

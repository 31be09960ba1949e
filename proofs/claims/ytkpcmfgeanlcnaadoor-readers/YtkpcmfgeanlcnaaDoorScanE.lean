/-
  How the document reads a shard: the sum of sizes (Total), the length of a column (Length).
-/
import Derived.Test.YtkpcmfgeanlcnaaDoorScanD
namespace Go.Proofs.YtkpcmfgeanlcnaaDoor
open Go.RowKit Go.Deep

/-- A slice of values of one cell each. -/
def Hold (w : World) (v : Value) (xs : List Value) : Prop :=
  (v = .slice none 0 0 ∧ xs = []) ∨ ∃ g off cap, v = .slice (some ⟨g, off, none⟩) xs.length cap ∧ ∀ j u, xs[j]? = some u → w.cell? ⟨g, off + j, none⟩ = some u
theorem Hold.heap {w w' : World} {v : Value} {xs : List Value} (h : Hold w v xs) (hh : w'.heap = w.heap) : Hold w' v xs := by
  rcases h with h | ⟨g, off, cap, rfl, hc⟩
  · exact .inl h
  · exact .inr ⟨g, off, cap, rfl, fun j u hj => by
      have := hc j u hj
      unfold World.cell? at *
      rw [hh]; exact this⟩
theorem hold_owns {w : World} {base e n : Nat} {v : Value} {xs : List Value} (h : w.ownsRow base e 1 v n xs) : Hold w v xs := by
  have hl : xs.length = n := by have := h.1; omega
  rcases h.2 with ⟨rfl, h0⟩ | ⟨g, cap, cur, rfl, _⟩
  · exact .inl ⟨rfl, List.length_eq_zero_iff.1 (by omega)⟩
  · exact .inr ⟨g, 0, cap, by rw [hl], fun j u hj => by
      have hj' : j < xs.length := (List.getElem?_eq_some_iff.1 hj).1
      have hc := h.cellAt j (by omega)
      rw [Nat.zero_add, hc]; exact hj⟩

def natV (l : List Nat) : List Value := l.map fun (z : Nat) => Value.int .i64 (z : Int)
theorem natV_at {l : List Nat} {j : Nat} (h : j < l.length) : (natV l)[j]? = some (.int .i64 ((l.getD j 0 : Nat) : Int)) := by
  simp [natV, List.getElem?_map, List.getD_eq_getElem?_getD, List.getElem?_eq_getElem h]
theorem natV_length (l : List Nat) : (natV l).length = l.length := by simp [natV]

/-- The sum of sizes; above 65536: 65537. -/
def totalS (l : List Nat) : Nat := if l.sum ≤ 65536 then l.sum else 65537
theorem totalS_le (l : List Nat) : totalS l ≤ 65537 := by unfold totalS; split <;> omega

theorem sum_le_of_take (l : List Nat) (i : Nat) : (l.take i).sum ≤ l.sum := by
  have := List.sum_append (l₁ := l.take i) (l₂ := l.drop i)
  rw [List.take_append_drop] at this
  omega
theorem sum_take_succ {l : List Nat} {i : Nat} (h : i < l.length) : (l.take (i + 1)).sum = (l.take i).sum + l.getD i 0 := by
  rw [List.take_succ_eq_append_getElem h, List.sum_append]
  simp [List.getD_eq_getElem?_getD, List.getElem?_eq_getElem h]

set_option maxHeartbeats 1000000 in
set_option maxRecDepth 100000 in
theorem total_any (v : Value) (l : List Nat) (hz : ∀ i, l.getD i 0 < 2 ^ 63) (hl : l.length < 2 ^ 60) (w : World) (h : Hold w v (natV l)) :
    Calls Tryd.prog 65 #[v] w fun r w' => r = .returned (.int .i64 (totalS l : Nat)) ∧ w' = w := by
  obtain ⟨ba, cap, rfl⟩ : ∃ ba cap, v = .slice ba l.length cap := by
    rcases h with ⟨rfl, h0⟩ | ⟨g, off, cap, rfl, _⟩
    · have : l = [] := by simpa [natV] using h0
      subst this
      exact ⟨none, 0, rfl⟩
    · exact ⟨_, cap, by rw [natV_length]⟩
  go_enter Tryd.func65, Tryd.ntmps65
  go_wp2
  go_loop [3, 4] (fun vt vi => ∃ i : Nat, i ≤ l.length ∧ vi = .int .i64 (i : Int) ∧ vt = .int .i64 ((l.take i).sum : Nat) ∧ (l.take i).sum ≤ 65536) (fun _ i => l.length - (intOf i).toNat)
  case atStart => exact ⟨0, by omega, rfl, by simp, by simp⟩
  case round =>
    obtain ⟨i, hi, rfl, rfl, hs⟩ := hrel
    by_cases hlt : i < l.length
    · obtain ⟨a, hc⟩ : ∃ a, ba = some a ∧ a.spot = none ∧ w.cell? ⟨a.block, a.off + i, none⟩ = some (.int .i64 ((l.getD i 0 : Nat) : Int)) := by
        rcases h with ⟨h0, h1⟩ | ⟨g, off, c, e, hc⟩
        · have : l = [] := by simpa [natV] using h1
          subst this
          simp at hlt
        · injection e with e1 e2 e3
          exact ⟨_, e1, rfl, hc i _ (natV_at hlt)⟩
      obtain ⟨rfl, hsp, hcell⟩ := hc
      obtain ⟨b, off, sp⟩ := a
      simp only at hsp hcell
      subst hsp
      have hz' := hz i
      have H1 : Hid _ := sum_take_succ hlt
      have H2 : Hid _ := sum_le_of_take l (i + 1)
      obtain ⟨z, ez⟩ : ∃ z, l.getD i 0 = z := ⟨_, rfl⟩
      obtain ⟨s, es⟩ : ∃ s, (l.take i).sum = s := ⟨_, rfl⟩
      rw [ez] at hcell hz' H1
      rw [es] at hs H1 ⊢
      clear ez es h hz
      by_cases hbig : 65536 < z
      · have HT : Hid (totalS l = 65537) := by
          show totalS l = 65537
          have := H1.out; have := H2.out
          unfold totalS; rw [if_neg (by omega)]
        clear H1 H2
        go_wp2
        go_ret
        exact ⟨by rw [HT.out]; rfl, rfl⟩
      · by_cases hbig2 : 65536 < s + z
        · have HT : Hid (totalS l = 65537) := by
            show totalS l = 65537
            have := H1.out; have := H2.out
            unfold totalS; rw [if_neg (by omega)]
          clear H1 H2
          go_wp2
          go_ret
          exact ⟨by rw [HT.out]; rfl, rfl⟩
        · clear H2
          go_wp2
          go_round
          case rel => exact ⟨i + 1, by omega, by go_num, by rw [H1.out]; go_num, by rw [H1.out]; omega⟩
          case measure => simp [intOf]; omega
    · have e : l.take i = l := List.take_of_length_le (by omega)
      rw [e] at hs ⊢
      have HT : Hid (totalS l = l.sum) := by show totalS l = l.sum; unfold totalS; rw [if_pos hs]
      obtain ⟨s, es⟩ : ∃ s, l.sum = s := ⟨_, rfl⟩
      rw [es] at HT hs ⊢
      clear e h hz es
      go_wp2
      go_ret
      exact ⟨ret_i64 (by rw [HT.out]), rfl⟩

/-- The length of a column. -/
def lengthS (k : Nat) (l : List Nat) : Nat := (totalS l + k - 1) / k
theorem lengthS_eq {k : Nat} (hk : 1 ≤ k) (l : List Nat) : lengthS k l = if totalS l / k * k < totalS l then totalS l / k + 1 else totalS l / k := by
  unfold lengthS
  generalize totalS l = t
  have h1 := Nat.div_add_mod t k
  have h2 := Nat.mod_lt t (show 0 < k by omega)
  rw [Nat.mul_comm] at h1
  split
  · rename_i h
    rw [Nat.div_eq_of_lt_le]
    · rw [Nat.add_mul]; omega
    · rw [Nat.add_mul, Nat.add_mul]; omega
  · rename_i h
    rw [Nat.div_eq_of_lt_le]
    · omega
    · rw [Nat.add_mul]; omega

set_option maxHeartbeats 1000000 in
set_option maxRecDepth 100000 in
theorem length_any (K : Int) (k : Nat) (hK : K = k) (hk : 1 ≤ k) (hk2 : k ≤ 255) (v : Value) (l : List Nat) (hz : ∀ i, l.getD i 0 < 2 ^ 63) (hl : l.length < 2 ^ 60) (w : World) (h : Hold w v (natV l)) :
    Calls Tryd.prog 43 #[.int .i64 K, v] w fun r w' => r = .returned (.int .i64 (lengthS k l : Nat)) ∧ w' = w := by
  subst hK
  have HL : Hid _ := lengthS_eq hk l
  have ht := totalS_le l
  obtain ⟨t, et⟩ : ∃ t, totalS l = t := ⟨_, rfl⟩
  have ET : Hid (totalS l = t) := et
  rw [et] at ht HL
  clear et
  obtain ⟨q, eq⟩ : ∃ q, t / k = q := ⟨_, rfl⟩
  have hq : q ≤ t := eq ▸ Nat.div_le_self _ _
  have hqk : q * k ≤ t := eq ▸ Nat.div_mul_le_self _ _
  rw [eq] at HL
  have in64 : ∀ n : Int, -9223372036854775808 ≤ n ∧ n ≤ 9223372036854775807 → wrap64 n = n := fun n hn => (IntWalk.i64_left n).symm.trans (IntWalk.i64_in n hn)
  have W1 : Hid (wrap64 ((t : Int) / (k : Int)) = (q : Int)) := by
    show wrap64 ((t : Int) / (k : Int)) = (q : Int)
    rw [← Int.natCast_ediv, eq]; exact in64 _ (by omega)
  have W2 : Hid (wrap64 ((q : Int) * (k : Int)) = ((q * k : Nat) : Int)) := by
    show wrap64 ((q : Int) * (k : Int)) = ((q * k : Nat) : Int)
    rw [← Int.natCast_mul]; exact in64 _ (by omega)
  have W3 : Hid (wrap64 ((q : Int) + 1) = ((q + 1 : Nat) : Int)) := by
    show wrap64 ((q : Int) + 1) = ((q + 1 : Nat) : Int)
    rw [in64 _ (by omega)]; rfl
  clear in64 hq hqk eq
  go_enter Tryd.func43, Tryd.ntmps43
  go_wp2_with (first | (go_at_call 65; refine (total_any v l hz hl _ h).mono ?_; rintro r w' ⟨rfl, hw'⟩; obtain rfl := hw'.symm; rw [ET.out]))
  · have hx : wrap64 (wrap64 ((t : Int) / (k : Int)) * (k : Int)) < (t : Int) := by assumption
    rw [W1.out, W2.out] at hx
    go_ret
    refine ⟨ret_i64 ?_, rfl⟩
    rw [HL.out, if_pos (by omega), W1.out, W3.out]
  · have hx : (t : Int) ≤ wrap64 (wrap64 ((t : Int) / (k : Int)) * (k : Int)) := by assumption
    rw [W1.out, W2.out] at hx
    go_ret
    refine ⟨ret_i64 ?_, rfl⟩
    rw [HL.out, if_neg (by omega), W1.out]
end Go.Proofs.YtkpcmfgeanlcnaaDoor

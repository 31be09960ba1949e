/-
  When two rows of bytes are told to be the same.
-/
import Derived.Test.YtkpcmfgeanlcnabDoorRowW
namespace Go.Proofs.YtkpcmfgeanlcnabDoor
open Go.RowKit Go.Deep

theorem add_none (b off j : Nat) : (⟨b, off, none⟩ : Addr).add j = ⟨b, off + j, none⟩ := by
  unfold Addr.add
  by_cases h : j = 0 <;> simp [h]
theorem add_block (a : Addr) (j : Nat) : (a.add j).block = a.block := by
  unfold Addr.add
  by_cases h : j = 0 <;> simp [h]
/-- The slice v holds just these bytes. -/
def Holds8 (w : World) (v : Value) (l : List UInt8) : Prop :=
  (v = .slice none 0 0 ∧ l = []) ∨ ∃ a cap, v = .slice (some a) l.length cap ∧ ∀ j (hj : j < l.length), w.cell? (a.add j) = some (.int .u8 (l[j].toNat : Int))

theorem Holds8.string {w : World} {v : Value} {l : List UInt8} (h : Holds8 w v l) : (convert 29 9 v).run Tryd.prog w = .ok (.string ⟨l.toArray⟩) w := by
  rcases h with ⟨rfl, rfl⟩ | ⟨a, cap, rfl, hc⟩
  · rw [run_convert_bytes_string w 29 9 5 none 0 0 Tryd.underlying29 Tryd.underlying5 Tryd.underlying9]
    rfl
  · exact run_convert_bytes_back w 29 9 5 a cap l Tryd.underlying29 Tryd.underlying5 Tryd.underlying9 hc
/-- It stands in every world that has these cells. -/
theorem Holds8.later {w w' : World} {v : Value} {l : List UInt8} {B : Nat} (h : Holds8 w v l) (hb : Below B w w') (hv : ∀ a n c, v = .slice (some a) n c → a.block < B) : Holds8 w' v l := by
  rcases h with h | ⟨a, cap, rfl, hc⟩
  · exact .inl h
  · refine .inr ⟨a, cap, rfl, fun j hj => ?_⟩
    rw [hb.cell (p := a.add j) (by rw [add_block]; exact hv a _ _ rfl)]
    exact hc j hj

/-- The bytes of a function on places. -/
def u8s (n : Nat) (f : Nat → Nat) : List UInt8 := (List.range n).map fun j => UInt8.ofNat (f j)
theorem u8s_length (n : Nat) (f : Nat → Nat) : (u8s n f).length = n := by simp [u8s]
theorem u8s_at {n : Nat} {f : Nat → Nat} (hf : ∀ j, j < n → f j < 256) (j : Nat) (hj : j < (u8s n f).length) : ((u8s n f)[j].toNat : Int) = (f j : Int) := by
  have hj' : j < n := by simpa [u8s] using hj
  have := hf j hj'
  simp only [u8s, List.getElem_map, List.getElem_range]
  rw [UInt8.toNat_ofNat']
  have e : f j % 2 ^ 8 = f j := Nat.mod_eq_of_lt (by simpa using this)
  rw [e]
theorem holds8_rowIs {w : World} {b n : Nat} {f : Nat → Nat} (h : w.rowIs b 5 n (fun j => .int .u8 (f j : Nat))) (hf : ∀ j, j < n → f j < 256) (cap : Nat) : Holds8 w (.slice (some ⟨b, 0, none⟩) n cap) (u8s n f) := by
  refine .inr ⟨⟨b, 0, none⟩, cap, by rw [u8s_length], fun j hj => ?_⟩
  rw [u8s_at hf j hj]
  have hj' : j < n := by simpa [u8s] using hj
  have := h.cell hj'
  rw [add_none, Nat.zero_add]
  exact this
theorem holds8_owns {w : World} {base n : Nat} {v : Value} {f : Nat → Nat} (h : w.ownsRow base 5 1 v n ((List.range n).map fun j => .int .u8 (f j : Nat))) (hf : ∀ j, j < n → f j < 256) : Holds8 w v (u8s n f) := by
  rcases h.2 with ⟨rfl, rfl⟩ | ⟨g, cap, cur, rfl, _, _, _, _, _, _⟩
  · exact .inl ⟨rfl, by simp [u8s]⟩
  · refine .inr ⟨⟨g, 0, none⟩, cap, by rw [u8s_length], fun j hj => ?_⟩
    have hj' : j < n := by simpa [u8s] using hj
    rw [u8s_at hf j hj]
    have := h.cellAt j (by omega)
    simp only [List.getElem?_map, List.getElem?_range hj'] at this
    rw [add_none, Nat.zero_add]
    exact this

theorem ret_bool {a b : Bool} (h : a = b) : Ending.returned (.bool a) = .returned (.bool b) := by rw [h]
theorem owns_snoc {w : World} {base e c : Nat} {v : Value} {f : Nat → Nat} {x : Nat} (h : w.ownsRow base e 1 v (c + 1) ((List.range c).map (fun j => Value.int .u8 (f j : Nat)) ++ [.int .u8 (x : Int)])) (hx : f c = x) :
    w.ownsRow base e 1 v (c + 1) ((List.range (c + 1)).map fun j => .int .u8 (f j : Nat)) := by
  rw [List.range_succ, List.map_append]
  simp only [List.map_cons, List.map_nil]
  rw [hx]
  exact h

theorem one_u8 (x : Int) : ∀ u ∈ [Value.int .u8 x], u.oneCell' = true := by intro u hu; simp at hu; subst hu; rfl
theorem below_append {w wr w1 : World} {e c : Nat} {v : Value} {xs : List Value} {o : Obj} (h : Below w.heap.size w wr) (hown : wr.ownsRow w.heap.size e 1 v c xs) (hg : (wr.alloc o).grownBy w1 v.ownBlock) : Below w.heap.size w w1 :=
  (h.alloc h.size o).grown hg (by have := h.size; simp; omega) (fun k hk => (hown.lt k hk).1)

end Go.Proofs.YtkpcmfgeanlcnabDoor

/-
  Which numbers of parts may be; what Rows answers.
-/
namespace Go.Proofs.YtkpcmfgeanlcnabDoor
open Go.RowKit Go.Deep

/-- k is 1 to n, and n at most 128. -/
def fitB (k n : Int) : Bool := decide (1 ≤ k ∧ k ≤ n ∧ n ≤ 128)
theorem fitB_yes {k n : Int} (h1 : 1 ≤ k) (h2 : k ≤ n) (h3 : n ≤ 128) : fitB k n = true := decide_eq_true ⟨h1, h2, h3⟩
theorem fitB_no {k n : Int} (h : ¬ (1 ≤ k ∧ k ≤ n ∧ n ≤ 128)) : fitB k n = false := decide_eq_false h

set_option maxHeartbeats 400000 in
set_option maxRecDepth 100000 in
theorem partsFit_any (k n : Int) (w : World) :
    Calls Tryd.prog 13 #[.int .i64 k, .int .i64 n] w fun e w' => e = .returned (.bool (fitB k n)) ∧ w' = w := by
  by_cases h1 : 1 ≤ k
  · by_cases h2 : k ≤ n
    · by_cases h3 : n ≤ 128
      · have HF : Hid (fitB k n = true) := fitB_yes h1 h2 h3
        go_enter Tryd.func13, Tryd.ntmps13
        go_wp2
        go_ret
        exact ⟨ret_bool (by rw [HF.out]), rfl⟩
      · have HF : Hid (fitB k n = false) := fitB_no (by omega)
        go_enter Tryd.func13, Tryd.ntmps13
        go_wp2
        go_ret
        exact ⟨ret_bool (by rw [HF.out]), rfl⟩
    · have HF : Hid (fitB k n = false) := fitB_no (by omega)
      go_enter Tryd.func13, Tryd.ntmps13
      go_wp2
      go_ret
      exact ⟨ret_bool (by rw [HF.out]), rfl⟩
  · have HF : Hid (fitB k n = false) := fitB_no (by omega)
    go_enter Tryd.func13, Tryd.ntmps13
    go_wp2
    go_ret
    exact ⟨ret_bool (by rw [HF.out]), rfl⟩

end Go.Proofs.YtkpcmfgeanlcnabDoor

/-
  What the statement on Rows answers.
-/
namespace Go.Proofs.YtkpcmfgeanlcnabDoor
open Go.RowKit Go.Deep

theorem Below.cellRow {w w' : World} {B b n : Nat} {t : TypeId} {f : Nat → Value} (h : Below B w w') (hb : b < B) (hr : w.rowIs b t n f) : w'.rowIs b t n f := hr.of_block (h.block b hb)

end Go.Proofs.YtkpcmfgeanlcnabDoor

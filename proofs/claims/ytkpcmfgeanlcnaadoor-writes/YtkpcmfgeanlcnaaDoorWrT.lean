/-
  A shard that comes in as an argument: what its lists hold.
-/
import Derived.Test.YtkpcmfgeanlcnaaDoorWrS
import Derived.WalkKit
import Derived.ProofKit
import Derived.OpenShut
import Derived.SliceStrings
import Derived.ChangeSlices
import Derived.Deep.Fields
import Derived.WideShapes
namespace Go.Proofs.YtkpcmfgeanlcnaaDoor
open Go.ChangeShapes Go.WideShapes Go.RowKit Go.Deep

theorem wf_le {n : Int} (h : (Lit.int .i64 n).wf = true) : n ≤ 9223372036854775807 := by
  unfold Lit.wf at h
  simp only [Bool.and_eq_true, decide_eq_true_eq] at h
  have e : IntKind.i64.max = 9223372036854775807 := by decide
  omega
theorem wf_byte {n : Int} (h : (Lit.int .u8 n).wf = true) : 0 ≤ n ∧ n < 256 := by
  unfold Lit.wf at h
  simp only [Bool.and_eq_true, decide_eq_true_eq] at h
  have e : IntKind.u8.max = 255 := by decide
  have e2 : IntKind.u8.min = 0 := by decide
  omega
section
variable {H : Type} {enc : TypeId × Value → H} {P : Program} {w : World} {base : Nat} {spare : Nat → Bool} {held : Bool}
theorem open_seven {r : Reach} {b0 : Nat} {t : TypeId} {f0 f1 f2 f3 f4 f5 f6 : Field} {v : Value} {d : DataW H} {p : List MemPlace} (hs : P.underlying t = some (.struct #[f0, f1, f2, f3, f4, f5, f6])) (hone : oneCellFields P #[f0, f1, f2, f3, f4, f5, f6] = true) (hC : P.cellsOf t = 7)
    (hv : Value.okWide P w r b0 t v) (h : DataW.Trod enc P w base spare held t v d p) :
    ∃ (v0 v1 v2 v3 v4 v5 v6 : Value) (y0 y1 y2 y3 y4 y5 y6 : DataW H × List MemPlace) (n : Nat), v = .agg #[v0, v1, v2, v3, v4, v5, v6] ∧
      DataW.trod enc P w base spare held n f0.type [v0] = some y0 ∧ DataW.trod enc P w base spare held n f1.type [v1] = some y1 ∧ DataW.trod enc P w base spare held n f2.type [v2] = some y2 ∧ DataW.trod enc P w base spare held n f3.type [v3] = some y3 ∧
      DataW.trod enc P w base spare held n f4.type [v4] = some y4 ∧ DataW.trod enc P w base spare held n f5.type [v5] = some y5 ∧ DataW.trod enc P w base spare held n f6.type [v6] = some y6 := by
  obtain ⟨cs, rfl, hsz⟩ := okWide_struct hs hv
  obtain ⟨l⟩ := cs
  match l, hsz.trans hC with
  | [c0, c1, c2, c3, c4, c5, c6], _ =>
    obtain ⟨fuel, hf⟩ := h
    obtain ⟨xs, n, _, hx, _, hlen, hg⟩ := DataW.trod_struct hs hf
    match xs, hlen with
    | [y0, y1, y2, y3, y4, y5, y6], _ =>
      have g : ∀ (i : Nat) (f : Field), (#[f0, f1, f2, f3, f4, f5, f6] : Array Field)[i]? = some f → f.offset = i ∧ P.cellsOf f.type = 1 := hone_of hone
      obtain ⟨o0, k0⟩ := g 0 f0 rfl
      obtain ⟨o1, k1⟩ := g 1 f1 rfl
      obtain ⟨o2, k2⟩ := g 2 f2 rfl
      obtain ⟨o3, k3⟩ := g 3 f3 rfl
      obtain ⟨o4, k4⟩ := g 4 f4 rfl
      obtain ⟨o5, k5⟩ := g 5 f5 rfl
      obtain ⟨o6, k6⟩ := g 6 f6 rfl
      exact ⟨c0, c1, c2, c3, c4, c5, c6, y0, y1, y2, y3, y4, y5, y6, n, rfl, by simpa [Value.cells, o0, k0] using hg 0 f0 rfl, by simpa [Value.cells, o1, k1] using hg 1 f1 rfl, by simpa [Value.cells, o2, k2] using hg 2 f2 rfl, by simpa [Value.cells, o3, k3] using hg 3 f3 rfl, by simpa [Value.cells, o4, k4] using hg 4 f4 rfl, by simpa [Value.cells, o5, k5] using hg 5 f5 rfl, by simpa [Value.cells, o6, k6] using hg 6 f6 rfl⟩

theorem lies_of {a : Addr} {len cap : Nat} {xs : List Value} (hl : xs.length = len) (hc : len ≤ cap) (h : ∀ j u, xs[j]? = some u → w.cell? (a.add j) = some u) : Lies w (.slice (some a) len cap) xs := by
  subst hl
  refine ⟨some a, cap, rfl, hc, fun j u hj => ?_⟩
  obtain ⟨b, off, sp⟩ := a
  have h0 : ∃ u0, xs[0]? = some u0 := by
    have : j < xs.length := (List.getElem?_eq_some_iff.1 hj).1
    exact ⟨_, List.getElem?_eq_getElem (by omega)⟩
  obtain ⟨u0, hu0⟩ := h0
  have hspot : sp = none := by simpa [Addr.add] using World.cell?_spot (h 0 u0 hu0)
  subst hspot
  refine ⟨b, off, rfl, ?_⟩
  rw [← add_off]
  exact h j u hj
theorem lies_nil : Lies w (.slice none 0 0) [] := ⟨none, 0, rfl, by simp, fun j u hj => by simp at hj⟩

theorem open_names {t e : TypeId} {fuel : Nat} {v : Value} {x : DataW H × List MemPlace} (ht : P.underlying t = some (.slice e)) (he : P.underlying e = some .string) (hc : P.cellsOf e = 1) (h : DataW.trod enc P w base (fun _ => true) held fuel t [v] = some x) :
    ∃ ns : List (List UInt8), Lies w v (nameV ns) ∧ ns.length ≤ 9223372036854775807 ∧ ∀ n ∈ ns, n.length ≤ 9223372036854775807 := by
  rcases open_strings ht he hc h with ⟨e1, _⟩ | ⟨a, len, cap, ss, e1, _, h1, h2, h3, _, h4, h5⟩
  · cases e1
    exact ⟨[], lies_nil, by simp, by simp⟩
  · cases e1
    have hss : ss.length = cap := by simpa using h3
    refine ⟨(ss.take len).map fun s => s.data.toList, lies_of (by simp [nameV]; omega) h1 (fun j u hj => ?_), by simp [maxLen] at h2 ⊢; omega, fun n hn => ?_⟩
    · have hj' : j < len := by
        have := (List.getElem?_eq_some_iff.1 hj).1
        simp [nameV] at this
        omega
      rw [h4 j (by omega)]
      rw [nameV_at (by simp; omega)] at hj
      rw [← hj]
      congr 2
      simp [List.getD_eq_getElem?_getD, hj', List.getElem?_eq_getElem (show j < ss.length by omega)]
    · obtain ⟨s, hs, rfl⟩ := List.mem_map.1 hn
      have h6 : s.size ≤ 9223372036854775807 := h5 s (List.mem_of_mem_take hs)
      have e : s.data.toList.length = s.size := Array.length_toList
      show s.data.toList.length ≤ _
      rw [e]
      exact h6

theorem open_sizes {t e : TypeId} {fuel : Nat} {v : Value} {x : DataW H × List MemPlace} (ht : P.underlying t = some (.slice e)) (he : P.underlying e = some (.int .i64)) (hc : P.cellsOf e = 1) (h : DataW.trod enc P w base (fun _ => true) held fuel t [v] = some x) :
    ∃ zs : List Int, Lies w v (intV zs) ∧ zs.length ≤ 9223372036854775807 ∧ ∀ i, zs.getD i 0 ≤ 9223372036854775807 := by
  rcases open_ints ht he hc h with ⟨e1, _⟩ | ⟨a, len, cap, ss, e1, _, h1, h2, h3, _, h4, h5⟩
  · cases e1
    exact ⟨[], lies_nil, by simp, by simp⟩
  · cases e1
    have hss : ss.length = cap := by simpa using h3
    refine ⟨ss.take len, lies_of (by simp [intV]; omega) h1 (fun j u hj => ?_), by simp [maxLen] at h2 ⊢; omega, fun i => ?_⟩
    · have hj' : j < len := by
        have := (List.getElem?_eq_some_iff.1 hj).1
        simp [intV] at this
        omega
      rw [h4 j (by omega)]
      rw [intV_at (by simp; omega)] at hj
      rw [← hj]
      simp [List.getD_eq_getElem?_getD, hj']
    · rcases Nat.lt_or_ge i (ss.take len).length with x | x
      · rw [List.getD_eq_getElem?_getD, List.getElem?_eq_getElem x]
        exact wf_le (h5 _ (List.mem_of_mem_take (List.getElem_mem x)))
      · rw [List.getD_eq_getElem?_getD, List.getElem?_eq_none x]
        decide

theorem open_bytes8 {t e : TypeId} {fuel : Nat} {v : Value} {x : DataW H × List MemPlace} (ht : P.underlying t = some (.slice e)) (he : P.underlying e = some (.int .u8)) (hc : P.cellsOf e = 1) (h : DataW.trod enc P w base (fun _ => true) held fuel t [v] = some x) :
    ∃ l : List UInt8, Lies w v (u8V l) ∧ l.length ≤ 9223372036854775807 := by
  rcases open_ints ht he hc h with ⟨e1, _⟩ | ⟨a, len, cap, ss, e1, _, h1, h2, h3, _, h4, h5⟩
  · cases e1
    exact ⟨[], lies_nil, by simp⟩
  · cases e1
    have hss : ss.length = cap := by simpa using h3
    refine ⟨(ss.take len).map fun z => UInt8.ofNat z.toNat, lies_of (by simp [u8V]; omega) h1 (fun j u hj => ?_), by simp [maxLen] at h2 ⊢; omega⟩
    have hj' : j < len := by
      have := (List.getElem?_eq_some_iff.1 hj).1
      simp [u8V] at this
      omega
    have hjs : j < ss.length := by omega
    have hwf := h5 _ (List.getElem_mem hjs)
    rw [h4 j hjs]
    rw [u8V_get (by simp; omega)] at hj
    rw [← hj]
    have hb : (0 : Int) ≤ ss[j] ∧ ss[j] < 256 := wf_byte hwf
    simp only [List.getD_eq_getElem?_getD, List.getElem?_eq_getElem hjs, Option.getD_some, bAt, List.getElem?_map, List.getElem?_take, hj', if_true, Option.map_some]
    rw [UInt8.toNat_ofNat', Nat.mod_eq_of_lt (by omega)]
    congr 2
    omega
end
end Go.Proofs.YtkpcmfgeanlcnaaDoor

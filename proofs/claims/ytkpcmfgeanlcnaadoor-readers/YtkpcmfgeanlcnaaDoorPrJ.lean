/-
  How the program reads a shard: the manifest, whole (listing.read).
-/
import Derived.Test.YtkpcmfgeanlcnaaDoorPrI
import Derived.Test.YtkpcmfgeanlcnaaDoorShelf
import Derived.Lib.ItoaLen
namespace Go.Proofs.YtkpcmfgeanlcnaaDoor
open Go.RowKit Go.Deep

/-- The table of powers of ten lies as it is laid. -/
def Pow (w : World) : Prop := Lib.TabIs Tryd.prog w "internal/strconv.uint64pow10" .u64 Lib.pow10Tab
theorem below_grow (w : World) (k : Nat) (os : Array Obj) : Below w.heap.size w (Sort.grow (w.drewN k) os) :=
  ⟨rfl, rfl, rfl, by simp, fun i hi => by
    rw [Sort.heap_grow_old _ _ (by exact hi)]; rfl⟩
theorem itoa_any (n : Int) (h0 : 0 ≤ n) (h1 : n ≤ 100000) (w : World) (h : Pow w) :
    Calls Tryd.prog 158 #[.int .i64 n] w fun e w' => (∃ s : ByteArray, e = .returned (.string s) ∧ s.size ≤ 21) ∧ Below w.heap.size w w' := by
  refine (Any.strconv_Itoa Tryd.lays171 n (by omega) (by omega) w h).mono ?_
  rintro e w' ⟨rfl, k, os, rfl⟩
  have hl := Lib.itoa_length_le n (by omega) (by omega)
  exact ⟨⟨_, rfl, by simpa [ByteArray.size] using hl⟩, below_grow w k os⟩
section
variable (B lb b off ct : Nat) (u : List UInt8) (pl a : Nat) (vN vS : Value) (ns : List (List UInt8)) (zs : List Nat) (hlB : lb < B) (hbB : b < B) (hlb : lb ≠ b) (hu : u.length ≤ 1000000) (hct : u.length < ct) (ha : a ≤ u.length) (hpl : pl ≤ 1000000000000) (hns : ns.length < 1000) (hzl : zs.length = ns.length) (hzs : zs.sum ≤ 65536) (w : World) (I : LsI B w lb b off ct u pl a vN vS ns zs)
include hlB hbB hlb hu hct ha hpl hns hzl hzs I in
theorem readBlob_any : Calls Tryd.prog 157 #[.pointer (some ⟨lb, 0, none⟩)] w fun q w' => BlobPost B w lb b off ct u pl a ns zs q w' := by
  by_cases q1 : u.length < a + 6 ∨ le u a 2 < 1 ∨ 255 < le u a 2 ∨ u.length < a + 6 + le u a 2
  · refine (readBlob_1 B lb b off ct u pl a vN vS ns zs hu hct ha hpl w I q1).mono fun q w' h => ?_
    unfold BlobPost blob1
    rw [if_pos q1]
    exact h
  · by_cases q2 : 0 < ns.length ∧ notBehind (part u (a + 2) (le u a 2)) (ns.getD (ns.length - 1) []) = true
    · refine (readBlob_2 B lb b off ct u pl a vN vS ns zs hu hct ha hpl hns w I (le u a 2) rfl (by omega) (by omega) (by omega) _ rfl q2.1 q2.2).mono fun q w' h => ?_
      unfold BlobPost blob1
      rw [if_neg q1, if_pos q2]
      exact h
    · have q2' : 0 < ns.length → notBehind (part u (a + 2) (le u a 2)) (ns.getD (ns.length - 1) []) = false := fun h => by
        cases hh : notBehind (part u (a + 2) (le u a 2)) (ns.getD (ns.length - 1) []) with
        | false => rfl
        | true => exact absurd ⟨h, hh⟩ q2
      by_cases q3 : 65536 < zs.sum + le u (a + 2 + le u a 2) 4
      · refine (readBlob_3 B lb b off ct u pl a vN vS ns zs hu hct ha hpl hns hzs w I (le u a 2) rfl (by omega) (by omega) (by omega) _ rfl _ rfl q3 q2').mono fun q w' h => ?_
        unfold BlobPost blob1
        rw [if_neg q1, if_neg q2, if_pos q3]
        have e : a + 2 + le u a 2 = a + (2 + le u a 2) := by omega
        simp only
        rw [e]
        exact h
      · refine (readBlob_4 B lb b off ct u pl a vN vS ns zs hlB hbB hlb hu hct ha hpl hns hzl hzs w I (le u a 2) rfl (by omega) (by omega) (by omega) _ rfl _ rfl (by omega) q2').mono fun q w' h => ?_
        unfold BlobPost blob1
        rw [if_neg q1, if_neg q2, if_neg q3]
        exact h
end
end Go.Proofs.YtkpcmfgeanlcnaaDoor

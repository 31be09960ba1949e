/-
  The blobs of the statements fit; what stands of them.
-/
import Derived.Test.YtlghjjennhpjeaaGreatDoorSmD
import Derived.Test.YtlghjjennhpjeaaGreatDoorEnN
import Derived.Test.YtlghjjennhpjeaaGreatDoorEnC
import Derived.Deep.RegionHeld3
import Derived.Sort.QuietIn
namespace Go.Proofs.YtlghjjennhpjeaaGreatDoor
open Go.RowKit Go.Deep Go.Lf Go.Conc Go.Hp

theorem owns_sub {w w' : World} {B e z n : Nat} {v : Value} {xs : List Value} (h : w.ownsRow B e z v n xs) (hs : Sub w w') : w'.ownsRow B e z v n xs := by
  refine ⟨h.1, ?_⟩
  rcases h.2 with h1 | ⟨g, cap, cur, h1, h2, h3, h4⟩
  · exact .inl h1
  · exact .inr ⟨g, cap, cur, h1, h2, hs.2 _ _ _ _ h3, h4⟩
theorem SmP.sub {K N C m : Nat} {f : Nat → Ent} {D : Nat → List UInt8} {pb : Nat} {vb : Value} {w w' : World} (h : SmP K N C m f D pb vb w) (hs : Sub w w') : SmP K N C m f D pb vb w' :=
  ⟨hs.row h.par, by obtain ⟨B, h1⟩ := h.own; exact ⟨B, owns_sub h1 hs⟩, h.nm, h.len, fun j hj => by obtain ⟨B, h1⟩ := h.dat j hj; exact ⟨B, owns_sub h1 hs⟩, h.hm⟩
theorem SmS.sub {h0 K N C m : Nat} {f : Nat → Ent} {D : Nat → List UInt8} {xs : List Nat} {pb : Nat} {vb vt : Value} {w w' : World} (h : SmS h0 K N C m f D xs pb vb vt w) (hs : Sub w w') : SmS h0 K N C m f D xs pb vb vt w' :=
  ⟨h.pre.sub hs, by obtain ⟨B, h0, h1⟩ := h.owt; exact ⟨B, h0, owns_sub h1 hs⟩, h.once⟩

/-- Which bytes a blob has, by its name. -/
def dOf (D : Nat → List UInt8) (e : Ent) : List UInt8 := D ((e.k.getD 1 0).toNat - 97)
theorem dOf_nm (D : Nat → List UInt8) {e : Ent} {j : Nat} (hj : j < 26) (h : e.k = nmOf j) : dOf D e = D j := by
  unfold dOf
  rw [h]
  have : ((nmOf j).getD 1 0).toNat = 97 + j := by
    show (UInt8.ofNat (97 + j)).toNat = 97 + j
    rw [UInt8.toNat_ofNat', Nat.mod_eq_of_lt (by omega)]
  rw [this, Nat.add_sub_cancel_left]

section
variable {h0 K N C m : Nat} {f : Nat → Ent} {D : Nat → List UInt8} {xs : List Nat} {pb : Nat} {vb vt : Value} {w : World}
theorem args_of {f' : Nat → Ent} {v : Value} {B : Nat} (h : SmP K N C m f D pb vb w) (ho : w.ownsRow B 63 2 v m (blobL m f')) (hf : ∀ i, i < m → ∃ j, j < m ∧ f' i = f j) : ∃ bo cap, v = .slice bo m cap ∧ Args w bo m cap f' (dOf D) := by
  obtain ⟨bo, cap, rfl, h1, h2, hB⟩ := BC.of_owns ho
  have hm := h.hm
  refine ⟨bo, cap, rfl, by omega, h1, h2, fun i hi => ?_, fun i hi => ?_, hB, fun i hi => ?_⟩
  · obtain ⟨j, hj, e⟩ := hf i hi
    rw [e, h.nm j hj]
    simp [nmOf]
  · obtain ⟨j, hj, e⟩ := hf i hi
    obtain ⟨B, hd⟩ := h.dat j hj
    have h1 := (data_owns hd).1
    have h2 := h.len j hj
    rw [e]
    omega
  · obtain ⟨j, hj, e⟩ := hf i hi
    obtain ⟨B, hd⟩ := h.dat j hj
    rw [e, dOf_nm D (by omega) (h.nm j hj)]
    exact data_owns hd
theorem SmP.args (h : SmP K N C m f D pb vb w) : ∃ bo cap, vb = .slice bo m cap ∧ Args w bo m cap f (dOf D) := by
  obtain ⟨B, ho⟩ := h.own
  exact args_of h ho fun i hi => ⟨i, hi, rfl⟩
theorem turn_of (hx : Once m xs) (i : Nat) (hi : i < m) : ∃ j, j < m ∧ turn f xs i = f j := ⟨_, hx.lt i _ (by rw [List.getD_eq_getElem?_getD, List.getElem?_eq_getElem (by rw [hx.len]; exact hi)]; rfl), rfl⟩
theorem SmS.argt (h : SmS h0 K N C m f D xs pb vb vt w) : ∃ bo cap, vt = .slice bo m cap ∧ Args w bo m cap (turn f xs) (dOf D) := by
  obtain ⟨B, _, ho⟩ := h.owt
  exact args_of h.pre ho (turn_of h.once)
theorem SmP.fits (h : SmP K N C m f D pb vb w) : NamesFit m f := names_fit (xs := id) (fun i hi => by have := h.hm; show i < 26; omega) (fun i j h1 h2 => by show i ≠ j; omega) h.nm
theorem SmP.len2 (h : SmP K N C m f D pb vb w) : ∀ j, j < m → (f j).k.length = 2 ∧ (f j).l < 14 := fun j hj => by
  obtain ⟨B, hd⟩ := h.dat j hj
  have h1 := (data_owns hd).1
  have h2 := h.len j hj
  exact ⟨by rw [h.nm j hj]; rfl, by omega⟩
end

theorem fits_re {n : Nat} {f g : Nat → Ent} (hR : Rearr n f g) (h : NamesFit n f) : NamesFit n g := by
  refine ⟨fun i hi => ?_, fun i j h1 h2 e => ?_⟩
  · obtain ⟨j, hj, e⟩ := hR.from hi
    rw [e]
    exact h.1 j hj
  · obtain ⟨i', j', a1, a2, a3, a4, a5⟩ := hR.two (i := i) (j := j) (by omega) h2 (by omega)
    rw [a4, a5] at e
    rcases Nat.lt_or_ge i' j' with hlt | hge
    · exact h.2 i' j' hlt a2 e
    · exact h.2 j' i' (by omega) a1 e.symm
theorem strict_of {n : Nat} {g : Nat → Ent} (hS : Srt n g) (h : NamesFit n g) : ∀ i, i + 1 < n → Hp.lt (g i).k (g (i + 1)).k = true := fun i hi => by
  have h1 := hS i hi
  rcases Hp.lt_tri (g i).k (g (i + 1)).k with ⟨h2, _, _⟩ | ⟨h2, _, _⟩ | ⟨h2, _, _⟩
  · exact h2
  · have h1' : Hp.lt (g (i + 1)).k (g i).k = false := h1
    rw [h1'] at h2; cases h2
  · exact absurd h2 (h.2 i (i + 1) (by omega) hi)
/-- Sorted they are one list. -/
theorem sorted_same {n : Nat} {f g g' : Nat → Ent} (h : NamesFit n f) (a : Rearr n f g) (b : Rearr n f g') (hg : Srt n g) (hg' : Srt n g') : ∀ i, i < n → g' i = g i :=
  sorted_one a b (strict_of hg (fits_re a h)) hg'

theorem sum_le {α : Type} (l : List α) (F : α → Nat) (c : Nat) (h : ∀ x ∈ l, F x ≤ c) : (l.map F).sum ≤ c * l.length := by
  induction l with
  | nil => simp
  | cons a l ih =>
    have h1 := h a (by simp)
    have h2 := ih fun x hx => h x (by simp [hx])
    simp only [List.map_cons, List.sum_cons, List.length_cons, Nat.mul_succ]
    omega
theorem few_ok {m : Nat} {f g : Nat → Ent} (hm : m ≤ 5) (h : ∀ j, j < m → (f j).k.length = 2 ∧ (f j).l < 14) (hR : Rearr m f g) : FewOk (namesOf m g) (sizesOf m g) := by
  have hg : ∀ i, i < m → (g i).k.length = 2 ∧ (g i).l < 14 := fun i hi => by
    obtain ⟨j, hj, e⟩ := hR.from hi
    rw [e]
    exact h j hj
  refine ⟨by rw [namesOf_length]; omega, ?_, ?_⟩
  · unfold tot
    have := sum_le (sizesOf m g) Int.toNat 14 fun x hx => by
      simp only [sizesOf, List.mem_map, List.mem_range] at hx
      obtain ⟨i, hi, rfl⟩ := hx
      have := hg i hi
      omega
    rw [sizesOf_length] at this
    omega
  · unfold manN
    have := sum_le (namesOf m g) (fun n => 6 + n.length) 8 fun x hx => by
      simp only [namesOf, List.mem_map, List.mem_range] at hx
      obtain ⟨i, hi, rfl⟩ := hx
      have := hg i hi
      omega
    rw [namesOf_length] at this
    omega

section
open Go.Conc
variable {P : Program} {X : Nat → Prop} {Y : Nat → Option Obj} {D : Nat → World → Array Event → Prop} {Stop : Goroutine → World → Prop} {f : FuncId} {v : World}
/-- The last return, in the midst of the code. -/
theorem reaR_done (hD0 : Dok X D) {T : Array Value} {k : List Item} {fn : Func} (hf : P.funcs[f]? = some fn) (hin : P.inits.idxOf? f = none) {y : Value} (hres : ∀ u, (results fn T).runT P u #[] = (.ok y u, #[]))
    (h : ∀ w d, SimT X Y w v → (∀ d', stepG P true (G { Dn none [] f T (.code .ret :: k) with mode := .returning } []) (w.at d') = .ended (.done y) (w.at d') #[]) → Stop (G { Dn none [] f T (.code .ret :: k) with mode := .returning } []) (w.at d)) : ReaR P X Y D Stop none [] f [] (.code .ret :: k) T v := by
  intro w hs
  refine .next rfl fun d => ⟨G { Dn none [] f T (.code .ret :: k) with mode := .returning } [], w.at d, #[], rfl, hD0.nil (Nat.le_refl _), ?_⟩
  have eA : ∀ u, stepG P true (G { Dn none [] f T (.code .ret :: k) with mode := .returning } []) u = .ended (.done y) u #[] := fun u => by
    have := hres u
    simp only [G, stepG, unwind, Dn, hf, this, seen_none, doReturn, hin, Bool.not_true, Bool.false_eq_true, if_false, GStep.after, Array.append_empty]
  exact .stop fun d' => h w d' hs fun d'' => eA _
end
end Go.Proofs.YtlghjjennhpjeaaGreatDoor

/-
  What the program's Write of a shard answers.
-/
namespace Go.Proofs.YtlghjjennhpjeaaGreatDoor
open Go.RowKit Go.Deep

theorem Sh.err_lt (s : Sh) : s.err ≤ 15 := by
  unfold Sh.err
  repeat' split
  all_goals omega

theorem Lies.heap {w w' : World} {v : Value} {xs : List Value} (h : Lies w v xs) (hh : w'.heap = w.heap) : Lies w' v xs := by
  obtain ⟨ba, cap, rfl, hle, hc⟩ := h
  refine ⟨ba, cap, rfl, hle, fun j u hj => ?_⟩
  obtain ⟨b, off, e, h1⟩ := hc j u hj
  refine ⟨b, off, e, ?_⟩
  unfold World.cell? at *
  rw [hh]; exact h1
theorem OwnB.base {B B' : Nat} {w : World} {v : Value} {l : List UInt8} (h : OwnB B w v l) (hB : B' ≤ B) : OwnB B' w v l := by
  refine ⟨h.1, ?_⟩
  rcases h.2 with x | ⟨g, cap, cur, h1, h2, h3⟩
  · exact .inl x
  · exact .inr ⟨g, cap, cur, h1, Nat.le_trans hB h2, h3⟩
theorem b8_nat (k : Nat) (hk : k ≤ 255) : b8 (k : Int) = UInt8.ofNat k := by
  unfold b8
  rw [Int.toNat_natCast, Nat.mod_eq_of_lt (by omega)]

end Go.Proofs.YtlghjjennhpjeaaGreatDoor

/-
  The shards that Encode gives are right, and read what was encoded.
-/
namespace Go.Proofs.YtlghjjennhpjeaaGreatDoor
open Go.RowKit Go.Deep Go.Lf Go.Conc Go.Hp

theorem dot_unit {k i : Nat} {x : Nat → Nat} (hi : i < k) (hx : ∀ j, x j < 256) : ∀ n, dotN (rowV k i) x n = if i < n then x i else 0
  | 0 => rfl
  | n + 1 => by
    show dotN (rowV k i) x n ^^^ mul (rowV k i n) (x n) = _
    rw [dot_unit hi hx n]
    have hr : rowV k i n = if n = i then 1 else 0 := by unfold rowV; rw [if_pos hi]
    rw [hr]
    by_cases e : n = i
    · subst e
      rw [if_pos rfl, if_neg (by omega), if_pos (by omega), mul_comm (by omega) (hx n), mul_one (hx n), Nat.zero_xor]
    · rw [if_neg e, zero_mul, Nat.xor_zero]
      by_cases q : i < n
      · rw [if_pos q, if_pos (by omega)]
      · rw [if_neg q, if_neg (by omega)]
theorem col_unit {k L i m : Nat} {l : List UInt8} (hi : i < k) (hm : m < L) : bAt (colB k L l i) m = bAt l (i * L + m) := by
  have h := dot_unit (x := fun j => xAt l L j m) hi (fun j => bAt_lt _ _) k
  rw [if_pos hi] at h
  unfold colB
  simp only [bAt, List.getD_eq_getElem?_getD, List.getElem?_map, List.getElem?_range hm, Option.map_some, Option.getD_some]
  rw [h]
  show (UInt8.ofNat (bAt l (i * L + m))).toNat = _
  rw [UInt8.toNat_ofNat', Nat.mod_eq_of_lt (bAt_lt _ _)]
  rfl
theorem bAt_out {l : List UInt8} {i : Nat} (h : l.length ≤ i) : bAt l i = 0 := by
  simp only [bAt, List.getD_eq_getElem?_getD]
  rw [List.getElem?_eq_none h]
  rfl
/-- The shard of a place. -/
def encSh (K N C m : Nat) (f : Nat → Ent) (d : Ent → List UInt8) (i : Nat) : Sh := ⟨K, N, i, C, namesOf m f, sizesOf m f, colB K (lenC K (joinD (fun j => d (f j)) m).length) (joinD (fun j => d (f j)) m) i⟩
theorem enc_good {K N C m i : Nat} {f : Nat → Ent} {d : Ent → List UInt8} (hP : ParamsOk (K : Int) (N : Int) (C : Int)) (hN : NamesOk (namesOf m f)) (hF : FewOk (namesOf m f) (sizesOf m f)) (hd : ∀ j, j < m → (d (f j)).length = (f j).l) (hi : i < N) :
    (encSh K N C m f d i).Fine ∧ (encSh K N C m f d i).Listed ∧ (encSh K N C m f d i).Few ∧ (encSh K N C m f d i).Long ∧ ¬ (encSh K N C m f d i).Bad := by
  have ht := tot_sizes d f m hd
  refine ⟨(Sh.fine_iff _).2 ⟨hP, ?_, ?_⟩, (Sh.listed_iff _).2 (names_listed hN), (Sh.few_iff _).2 hF, ?_, ?_⟩
  · show (0 : Int) ≤ (i : Int); omega
  · show (i : Int) < (N : Int); omega
  · show (colB _ _ _ _).length = lenC (K : Int).toNat (tot (sizesOf m f))
    rw [colB_length, ht]
    rfl
  · rintro ⟨h1, q, h2, h3, h4⟩
    have h1' : (i : Int) < (K : Int) := h1
    have h2' : q < (colB K (lenC K (joinD (fun j => d (f j)) m).length) (joinD (fun j => d (f j)) m) i).length := h2
    have h3' : tot (sizesOf m f) ≤ i * lenC K (tot (sizesOf m f)) + q := h3
    rw [colB_length] at h2'
    rw [ht] at h3'
    refine h4 ?_
    show bAt (colB K (lenC K (joinD (fun j => d (f j)) m).length) (joinD (fun j => d (f j)) m) i) q = 0
    rw [col_unit (by omega) h2', bAt_out h3']
theorem enc_bytes {K N C m i : Nat} {f : Nat → Ent} {d : Ent → List UInt8} (hK : K ≤ 255) (hN : N ≤ 255) (hi : i ≤ 255) : shardB K N C (namesOf m f) (sizesOf m f) i (colB K (lenC K (joinD (fun j => d (f j)) m).length) (joinD (fun j => d (f j)) m) i) = wrB (encSh K N C m f d i) := by
  unfold shardB wrB headB manB encSh
  simp only [Int.toNat_natCast]
  rw [b8_nat K hK, b8_nat N hN, b8_nat i hi]
end Go.Proofs.YtlghjjennhpjeaaGreatDoor

/-
  Small laws for the statement Canon.
-/
namespace Go.Proofs.YtlghjjennhpjeaaGreatDoor
open Go.RowKit Go.Deep Go.Lf Go.Conc Go.Hp

/-- The archive's names ascend. -/
theorem srt_nm {m : Nat} {f : Nat → Ent} (hm : m ≤ 5) (h : ∀ j, j < m → (f j).k = nmOf j) : Srt m f := by
  intro i hi
  rw [h i (by omega), h (i + 1) hi]
  have : i < 4 := by omega
  match i, this with
  | 0, _ => show Hp.lt (nmOf (0 + 1)) (nmOf 0) = false; decide
  | 1, _ => show Hp.lt (nmOf (1 + 1)) (nmOf 1) = false; decide
  | 2, _ => show Hp.lt (nmOf (2 + 1)) (nmOf 2) = false; decide
  | 3, _ => show Hp.lt (nmOf (3 + 1)) (nmOf 3) = false; decide
theorem sizes_nat {zs : List Int} (h : SizesOk zs) : natV (zs.map Int.toNat) = intV zs := by
  unfold natV intV
  rw [List.map_map]
  apply List.ext_getElem
  · simp
  · intro i h1 h2
    have hi : i < zs.length := by simpa using h2
    have := h i hi
    rw [List.getD_eq_getElem?_getD, List.getElem?_eq_getElem hi, Option.getD_some] at this
    simp only [List.getElem_map, Function.comp]
    rw [Int.toNat_of_nonneg this]
theorem names_err (l : List UInt8) (en : Nat) : ∀ (c a : Nat) (ns : List (List UInt8)) (zs : List Nat) (e : Nat × Nat), blobsE l en c a ns zs = .error e → e.1 ≠ 0
  | 0, a, ns, zs, e, h => by unfold blobsE at h; cases h
  | c + 1, a, ns, zs, e, h => by
    unfold blobsE at h
    split at h
    · cases h; simp
    · split at h
      · cases h; simp
      · split at h
        · cases h; simp
        · split at h
          · cases h; simp
          · exact names_err l en c _ _ _ e h
theorem frames_ne (l : List UInt8) (low : Bool) (ch ln : Nat) (en : Int) : ∀ (f a : Nat) (col : List UInt8) (e : Nat × Nat), framesE l low ch ln en f a col = .error e → e.1 ≠ 0
  | 0, a, col, e, h => by unfold framesE at h; cases h
  | f + 1, a, col, e, h => by
    unfold framesE at h
    split at h
    · cases h
    · split at h
      · rename_i x hx
        cases h
        exact errs_sealE l _ _ _ hx
      · split at h
        · rename_i x hx
          cases h
          split at hx
          · exact errs_padE _ _ _ _ _ hx
          · cases hx
        · exact frames_ne l low ch ln en f _ _ e h
theorem parse_ne {z : List UInt8} {e : Nat × Nat} (h : parseE z = .error e) : e.1 ≠ 0 := by
  unfold parseE at h
  split at h
  · rename_i x hx
    cases h
    unfold headE at hx
    split at hx
    · rename_i y hy
      cases hx
      exact ((errs_fixE z _ _).or (errs_sealE z _ _)) _ hy
    · refine (?_ : Errs _) _ hx
      unfold headR
      exact (((((((errs_none.or (errs_mustE (by decide))).or (errs_mustE (by decide))).or (errs_mustE (by decide))).or (errs_mustE (by decide))).or (errs_mustE (by decide))).or (errs_mustE (by decide))).or (errs_mustE (by decide))).or (errs_mustE (by decide))
  · split at h
    · rename_i x hx
      cases h
      unfold namesE at hx
      split at hx
      · rename_i y hy
        cases hx
        exact errs_sealE z _ _ _ hy
      · split at hx
        · cases hx; simp
        · unfold endE at hx
          split at hx
          · rename_i y hy
            cases hx
            exact names_err z _ _ _ _ _ _ hy
          · split at hx
            · cases hx
            · cases hx; simp
    · split at h
      · split at h
        · rename_i x hx
          cases h
          exact frames_ne z _ _ _ _ _ _ _ _ hx
        · split at h
          · rename_i x hx
            cases h
            exact ((errs_fixE z _ _).or (errs_mustE (by decide))) _ hx
          · cases h
      · cases h; simp
end Go.Proofs.YtlghjjennhpjeaaGreatDoor

/-
  cairn.Decode up to its call of archive.Decode: every shard read, those that are right taken.
-/
namespace Go.Proofs.YtlghjjennhpjeaaGreatDoor
open Go.RowKit Go.Deep Go.Lf Go.Conc Go.Hp

theorem Tryz.infoErrno : (Tryz.prog.info? 31).map (fun i => (i.zero, i.size, i.bytes)) = some (some (.int .i64 0), 1, 8) := by kernel_rfl
theorem make_verd (n : Nat) (hn : n ≤ 1048576) (w : World) : (Instr.makeSlice 30 (.int .i64 (n : Int)) (.int .i64 (n : Int))).run Tryz.prog w = .ok (.slice (some ⟨w.heap.size, 0, none⟩) n n) (w.alloc (.cells (madeCells #[.int .i64 0] n) 31)) := by
  obtain ⟨i0, hi0, hz0, hz1, hz2⟩ := info_parts Tryz.infoErrno
  have := run_make (P := Tryz.prog) w 30 31 i0 _ Tryz.underlying30 hi0 hz0 .i64 .i64 n n (by omega) (by omega) (by rw [hz2]; omega) (by omega)
  rw [hz1] at this
  simp only [Int.toNat_natCast, Nat.mul_one] at this
  exact this
/-- Lists of bytes, where they lie. -/
structure SlB (w : World) (bi : Option Addr) (n : Nat) (bs : Nat → List UInt8) (vi : Nat → Value) : Prop where
  cells : 0 < n → ∃ b o, bi = some ⟨b, o, none⟩ ∧ ∀ i, i < n → w.cell? ⟨b, o + i, none⟩ = some (vi i)
  byt : ∀ i, i < n → Lies w (vi i) (u8V (bs i)) ∧ DatV (vi i) (bs i).length ∧ (bs i).length ≤ 4611686018427387904
theorem SlB.sub {w w' : World} {bi : Option Addr} {n : Nat} {bs : Nat → List UInt8} {vi : Nat → Value} (h : SlB w bi n bs vi) (hs : Sub w w') : SlB w' bi n bs vi :=
  ⟨fun hn => by
    obtain ⟨b, o, e, hc⟩ := h.cells hn
    exact ⟨b, o, e, fun i hi => hs.cell (hc i hi)⟩, fun i hi => ⟨hs.lies (h.byt i hi).1, (h.byt i hi).2⟩⟩
theorem pt_of {w : World} {v : Value} {l : List UInt8} (h : Lies w v (u8V l)) (hV : DatV v l.length) : Pt w (fun _ => False) v l := by
  rcases hV with ⟨rfl, h0⟩ | ⟨b, off, cap, rfl, hc⟩
  · exact .inl ⟨rfl, List.eq_nil_of_length_eq_zero h0⟩
  · refine .inr ⟨⟨b, off, none⟩, cap, rfl, hc, fun _ => id, fun j hj => ?_⟩
    obtain ⟨ba, cap', e, _, hh⟩ := h
    obtain ⟨b', off', e', h2⟩ := hh j _ (u8V_get hj)
    obtain ⟨e1, _, _⟩ := Value.slice.inj e
    rw [← e1] at e'
    cases e'
    rw [Addr.add_mid]
    exact h2
/-- Where the loop stands. -/
structure DI (w : World) (gv : Nat) (bs : Nat → List UInt8) (n j : Nat) (vN vS vC : Nat → Value) (vt : Value) (wr : World) : Prop where
  bel : Bel w.heap.size w wr
  row : wr.rowIs gv 31 n (fun i => if i < j then .int .i64 ((erS (bs i) : Nat) : Int) else .int .i64 0)
  lo : w.heap.size ≤ gv
  tk : Tk (gv + 1) (tkL bs j) vN vS vC vt wr
theorem DI.set {w : World} {gv : Nat} {bs : Nat → List UInt8} {n j : Nat} {vN vS vC : Nat → Value} {vt : Value} {wr w3 : World} (h : DI w gv bs n j vN vS vC vt wr) (hb : Below wr.heap.size wr w3) :
    Bel w.heap.size w (w3.setCell ⟨gv, j, none⟩ (.int .i64 ((erS (bs j) : Nat) : Int))) ∧ (w3.setCell ⟨gv, j, none⟩ (.int .i64 ((erS (bs j) : Nat) : Int))).rowIs gv 31 n (fun i => if i < j + 1 then .int .i64 ((erS (bs i) : Nat) : Int) else .int .i64 0) ∧ Tk (gv + 1) (tkL bs j) vN vS vC vt (w3.setCell ⟨gv, j, none⟩ (.int .i64 ((erS (bs j) : Nat) : Int))) := by
  have r := h.row.of_block (hb.block gv h.row.lt)
  have r1 := r.set j (.int .i64 ((erS (bs j) : Nat) : Int))
  refine ⟨Below.setCell (h.bel.trans (Bel.of hb) h.bel.size') (p := ⟨gv, j, none⟩) h.lo _, r1.congr fun i hi => ?_, h.tk.keep fun b hb1 hb2 => ?_⟩
  · by_cases e : i = j
    · subst e
      rw [if_pos rfl, if_pos (by omega)]
    · rw [if_neg e]
      by_cases e2 : i < j
      · rw [if_pos e2, if_pos (by omega)]
      · rw [if_neg e2, if_neg (by omega)]
  · rw [blk_setCell_other _ _ _ _ (show b ≠ (⟨gv, j, none⟩ : Addr).block from fun e => by simp at e; omega)]
    exact hb.block b hb2

section
variable {X : Nat → Prop} {Y : Nat → Option Obj} {D : Nat → World → Array Event → Prop} {Stop : Goroutine → World → Prop} {w : World} {cs : List Frame} {n cap : Nat} {bi : Option Addr} {bs : Nat → List UInt8} {vi : Nat → Value} {a : Addr}
set_option maxHeartbeats 8000000 in
set_option maxRecDepth 100000 in
theorem dc_pre (hDk : Dok X D) (hS : SlB w bi n bs vi) (hn : n ≤ 1048576) (hG : Gl a w)
    (hnext : ∀ (T : Array Value) (gv : Nat) (vN vS vC : Nat → Value) (vt : Value) (w' : World), TE1 gv n vt T → DI w gv bs n n vN vS vC vt w' →
      ReaI Tryz.prog X Y D Stop 5 cs [.code dc11] ⟨T, []⟩ w') :
    ReaI Tryz.prog X Y D Stop 5 cs [.code dcBody] ⟨#[.slice bi n cap] ++ Array.replicate 55 undef, []⟩ w := by
  rw [dcBody_eq]
  simp only [Array.replicate_succ, Array.replicate_zero, List.push_toArray, List.append_toArray, List.nil_append, List.cons_append]
  refine reachI_go goodA hDk (by kernel_rfl) rfl sfdc fun R hR τ d' => ?_
  have bl : Bel w.heap.size w { w with tape := τ, drawn := d' } := (Bel.refl _ w).tp τ d'
  generalize ({ w with tape := τ, drawn := d' } : World) = wA at bl ⊢
  simp only [gFst, dcBody, Tryz.f5, Option.getD_some]
  go_wp2
  refine reachI_go goodA hDk (by kernel_rfl) rfl sfdc fun R hR τ d' => ?_
  replace bl := bl.tp τ d'
  generalize ({ wA with tape := τ, drawn := d' } : World) = wB at bl ⊢
  simp only [gFst, gSnd, dcBody, Tryz.f5, Option.getD_some]
  have mk := make_verd n hn wB
  have r0 := World.rowIs_made wB (.int .i64 0) n 31
  have b0 : Bel w.heap.size w (wB.alloc (.cells (madeCells #[.int .i64 0] n) 31)) := bl.trans (Bel.of ((Below.refl _ _).alloc (Nat.le_refl _) _)) bl.size'
  have hlo := bl.size'
  go_wp2
  clear mk
  generalize wB.alloc (.cells (madeCells #[.int .i64 0] n) 31) = wC at r0 b0 ⊢
  generalize wB.heap.size = gv at *
  refine reachI_go goodA hDk (by kernel_rfl) rfl sfdc fun R hR τ d' => ?_
  replace b0 := b0.tp τ d'
  replace r0 : World.rowIs ({ wC with tape := τ, drawn := d' } : World) _ _ _ _ := r0
  generalize ({ wC with tape := τ, drawn := d' } : World) = wD at b0 r0 ⊢
  simp only [gFst, gSnd, dcBody, Tryz.f5, Option.getD_some]
  go_wp2
  refine reachI_go goodA hDk (by kernel_rfl) rfl sfdc fun R hR τ d' => ?_
  replace b0 := b0.tp τ d'
  replace r0 : World.rowIs ({ wD with tape := τ, drawn := d' } : World) _ _ _ _ := r0
  generalize ({ wD with tape := τ, drawn := d' } : World) = wE at b0 r0 ⊢
  simp only [gFst, gSnd, dcBody, Tryz.f5, Option.getD_some]
  have D0 : DI w gv bs n 0 (fun _ => undef) (fun _ => undef) (fun _ => undef) (.slice none 0 0) wE := ⟨b0, r0.congr fun i hi => by rw [if_neg (by omega)], hlo, World.ownsRow_nil _ _ _ _, fun i hi => absurd hi (by simp [tkL]), fun i hi => absurd hi (by simp [tkL]), fun i hi => absurd hi (by simp [tkL])⟩
  go_wp2
  go_loopw [6, 7, 8, 9, 10, 11, 21] (fun v6 _ _ _ _ _ vj wr => ∃ (j : Nat) (vN vS vC : Nat → Value), j ≤ n ∧ vj = .int .i64 (j : Int) ∧ DI w gv bs n j vN vS vC v6 wr) (fun _ _ _ _ _ _ vj _ => n - (intOf vj).toNat)
  case atStart => exact ⟨0, _, _, _, by omega, rfl, D0⟩
  case round =>
    clear D0 r0 b0
    obtain ⟨j, vN, vS, vC, hj, rfl, hI⟩ := hrel
    by_cases hlt : j < n
    · have hlt' : (j : Int) < (n : Int) := by omega
      have hs := bel_sub hI.bel
      obtain ⟨b, o, rfl, hcell⟩ := hS.cells (by omega)
      have c1 := hs.cell (hcell j hlt)
      have hGr := hG.sub hs
      have hP := pt_of (hs.lies (hS.byt j hlt).1) (hS.byt j hlt).2.1
      have kP := parseP_any (bs j) (vi j) wr hP (hS.byt j hlt).2.2 hGr.tab hGr.pow hGr.big a hGr.early hGr.errT
      unfold ParsePost at kP
      have hset := fun w3 hb => hI.set (w3 := w3) hb
      have hrc := fun (w3 : World) (hb : Below wr.heap.size wr w3) => (hI.row.of_block (hb.block gv hI.row.lt)).cell (i := j) hlt
      have hrf := fun (w3 : World) (hb : Below wr.heap.size wr w3) => (hI.row.of_block (hb.block gv hI.row.lt)).frozen j
      cases hpe : parseE (bs j) with
      | error e =>
        rw [hpe] at kP
        simp only at kP
        have hes : erS (bs j) = e.1 := by simp only [erS, hpe]
        have hne := parse_ne hpe
        have hne' : ¬ ((e.1 : Int) = 0) := by omega
        have htk := tkL_no hpe
        rw [hes] at hset
        clear hcell hGr hP hs hpe hes
        unfold zeroShard shardL at kP
        generalize e.1 = e1 at *
        generalize e.2 = e2 at *
        go_upto_region 7 with (first | (go_at_call 9; (with_reducible refine kP.mono ?_); rintro q w2 ⟨hb2, rfl⟩))
        have hb3 : Below wr.heap.size wr (w2.alloc (.cells #[.int .i64 0, .int .i64 0, .int .i64 0, .int .i64 0, .slice none 0 0, .slice none 0 0, .slice none 0 0] 41)) := hb2.alloc hb2.size _
        have z1 := hset _ hb3
        have z2 := hrc _ hb3
        have z3 := hrf _ hb3
        generalize w2.alloc (.cells #[.int .i64 0, .int .i64 0, .int .i64 0, .int .i64 0, .slice none 0 0, .slice none 0 0, .slice none 0 0] 41) = w3 at z1 z2 z3 ⊢
        clear hset hrc hrf hb3 hb2 c1 kP
        generalize w2.heap.size = p9
        rw [if_neg (by omega)] at z2
        go_wp2
        obtain ⟨z4, z5, z6⟩ := z1
        exact ⟨⟨j + 1, vN, vS, vC, by omega, by simp, ⟨z4, z5, hI.lo, by rw [htk]; exact z6⟩⟩, by simp [intOf]; omega⟩
      | ok s =>
        rw [hpe] at kP
        simp only at kP
        have hes : erS (bs j) = 0 := by simp only [erS, hpe]
        have htk := tkL_ok hpe
        have htl := tkL_len bs j
        rw [hes] at hset
        clear hcell hGr hP hs hpe hes
        unfold shardL at kP
        go_upto_region 7 with (first | (go_at_call 9; (with_reducible refine kP.mono ?_); rintro q w2 ⟨hb2, xN, xS, xC, rfl, oN, oS, oC⟩; obtain ⟨bN, cN, rfl⟩ := (Lies.owned oN).len; obtain ⟨bS, cS, rfl⟩ := (Lies.owned oS).len; obtain ⟨bC, cC, rfl⟩ := (Lies.owned oC).len))
        generalize (strsV s.names).length = lN at *
        generalize (natV s.sizes).length = lS at *
        generalize (u8V s.col).length = lC at *
        have hb3 : Below wr.heap.size wr (w2.alloc (.cells #[.int .i64 (s.k : Int), .int .i64 (s.n : Int), .int .i64 (s.i : Int), .int .i64 (s.c : Int), .slice bN lN cN, .slice bS lS cS, .slice bC lC cC] 41)) := hb2.alloc hb2.size _
        have hR := RowAt.made w2 [.int .i64 (s.k : Int), .int .i64 (s.n : Int), .int .i64 (s.i : Int), .int .i64 (s.c : Int), .slice bN lN cN, .slice bS lS cS, .slice bC lC cC] 41
        have z1 := hset _ hb3
        have z2 := hrc _ hb3
        have z3 := hrf _ hb3
        have oN3 := oN.alloc (.cells #[.int .i64 (s.k : Int), .int .i64 (s.n : Int), .int .i64 (s.i : Int), .int .i64 (s.c : Int), .slice bN lN cN, .slice bS lS cS, .slice bC lC cC] 41)
        have oS3 := oS.alloc (.cells #[.int .i64 (s.k : Int), .int .i64 (s.n : Int), .int .i64 (s.i : Int), .int .i64 (s.c : Int), .slice bN lN cN, .slice bS lS cS, .slice bC lC cC] 41)
        have oC3 := oC.alloc (.cells #[.int .i64 (s.k : Int), .int .i64 (s.n : Int), .int .i64 (s.i : Int), .int .i64 (s.c : Int), .slice bN lN cN, .slice bS lS cS, .slice bC lC cC] 41)
        have hgv := hI.row.lt
        have hp9 : w2.heap.size ≠ gv := by have := hb2.size; omega
        replace hR : RowAt (w2.alloc (.cells #[.int .i64 (s.k : Int), .int .i64 (s.n : Int), .int .i64 (s.i : Int), .int .i64 (s.c : Int), .slice bN lN cN, .slice bS lS cS, .slice bC lC cC] 41)) w2.heap.size [.int .i64 (s.k : Int), .int .i64 (s.n : Int), .int .i64 (s.i : Int), .int .i64 (s.c : Int), .slice bN lN cN, .slice bS lS cS, .slice bC lC cC] 41 := hR
        generalize w2.alloc (.cells #[.int .i64 (s.k : Int), .int .i64 (s.n : Int), .int .i64 (s.i : Int), .int .i64 (s.c : Int), .slice bN lN cN, .slice bS lS cS, .slice bC lC cC] 41) = w3 at z1 z2 z3 hR oN3 oS3 oC3 ⊢
        clear hset hrc hrf hb3 hb2 c1 kP oN oS oC
        generalize w2.heap.size = p9 at *
        rw [if_neg (by omega)] at z2
        replace hR : RowAt (w3.setCell ⟨gv, j, none⟩ (.int .i64 ((0 : Nat) : Int))) p9 [.int .i64 (s.k : Int), .int .i64 (s.n : Int), .int .i64 (s.i : Int), .int .i64 (s.c : Int), .slice bN lN cN, .slice bS lS cS, .slice bC lC cC] 41 := (blk_setCell_other _ _ _ _ hp9).trans hR
        replace oN3 := (ownsRow_setCell_below oN3 (a := ⟨gv, j, none⟩) hgv (.int .i64 ((0 : Nat) : Int))).mono (show gv + 1 ≤ wr.heap.size from hgv)
        replace oS3 := (ownsRow_setCell_below oS3 (a := ⟨gv, j, none⟩) hgv (.int .i64 ((0 : Nat) : Int))).mono (show gv + 1 ≤ wr.heap.size from hgv)
        replace oC3 := (ownsRow_setCell_below oC3 (a := ⟨gv, j, none⟩) hgv (.int .i64 ((0 : Nat) : Int))).mono (show gv + 1 ≤ wr.heap.size from hgv)
        go_upto_region 9 with (fail)
        replace hR : RowAt (w3.setCell ⟨gv, j, none⟩ (.int .i64 0)) p9 [.int .i64 (s.k : Int), .int .i64 (s.n : Int), .int .i64 (s.i : Int), .int .i64 (s.c : Int), .slice bN lN cN, .slice bS lS cS, .slice bC lC cC] 41 := hR
        rw [show ((0 : Nat) : Int) = 0 from rfl] at z1 oN3 oS3 oC3
        generalize w3.setCell ⟨gv, j, none⟩ (.int .i64 0) = w4 at *
        obtain ⟨z4, z5, z6⟩ := z1
        have c0 := hR.cell (i := 0) rfl
        have c1 := hR.cell (i := 1) rfl
        have c2 := hR.cell (i := 2) rfl
        have c3 := hR.cell (i := 3) rfl
        have c4 := hR.cell (i := 4) rfl
        have c5 := hR.cell (i := 5) rfl
        have c6 := hR.cell (i := 6) rfl
        have hg4 := z5.lt
        obtain ⟨i0, hi0, hz0, hz1, hz2⟩ := info_parts Tryz.infoShard
        obtain ⟨bt, ct, rfl⟩ : ∃ bt ct, u6 = .slice bt (tkL bs j).length ct := by
          rcases z6.own.2 with ⟨h1, h2⟩ | ⟨g, cap, _, h1, _⟩
          · exact ⟨none, 0, by rw [h1, h2]⟩
          · exact ⟨_, _, h1⟩
        have sy : ∀ u ∈ ([.int .i64 (s.k : Int), .int .i64 (s.n : Int), .int .i64 (s.i : Int), .int .i64 (s.c : Int), .slice bN lN cN, .slice bS lS cS, .slice bC lC cC] : List Value), u.oneCell' = true := by
          intro u hu
          simp only [List.mem_cons, List.not_mem_nil, or_false] at hu
          rcases hu with rfl | rfl | rfl | rfl | rfl | rfl | rfl <;> rfl
        clear hR z2 z3 hI
        go_wp2_with (at_builtin; refine wpList_append_own _ rfl _ _ 39 rfl (gv + 1) 41 i0 (.agg #[.int .i64 0, .int .i64 0, .int .i64 0, .int .i64 0, .slice none 0 0, .slice none 0 0, .slice none 0 0]) 7 104 Tryz.underlying39 hi0 hz0 hz1 hz2 rfl (by decide) _ _ _ rfl (z6.own.alloc _) ⟨w4.heap.size, 0, none⟩ 1 1 [.int .i64 (s.k : Int), .int .i64 (s.n : Int), .int .i64 (s.i : Int), .int .i64 (s.c : Int), .slice bN lN cN, .slice bS lS cS, .slice bC lC cC] rfl rfl (cells_news _ _ _) sy (by unfold maxLen; omega) (by omega) (by simp; omega) ?_; intro v' w5 hown5 hgrow _; obtain ⟨gq, cq, rfl, _, _⟩ := hown5.form (by omega))
        replace hgrow : (w4.alloc (.cells #[.int .i64 (s.k : Int), .int .i64 (s.n : Int), .int .i64 (s.i : Int), .int .i64 (s.c : Int), .slice bN lN cN, .slice bS lS cS, .slice bC lC cC] 41)).grownBy w5 (Value.slice bt (tkL bs j).length ct).ownBlock := hgrow
        have b5 : Below (gv + 1) w4 w5 := (((Below.refl _ w4).alloc (Nat.le_refl _) _).mono (show gv + 1 ≤ w4.heap.size from hg4)).grown hgrow (by simp; omega) (fun k hk => (z6.own.lt k hk).1)
        have t5 := (z6.keep (w' := w4.alloc (.cells #[.int .i64 (s.k : Int), .int .i64 (s.n : Int), .int .i64 (s.i : Int), .int .i64 (s.c : Int), .slice bN lN cN, .slice bS lS cS, .slice bC lC cC] 41)) (fun b _ hb2 => Below.heap_alloc _ _ b hb2)).more (s := s) (oN3.alloc _) (oS3.alloc _) (oC3.alloc _) hgrow hown5
        rw [← htk] at t5
        exact ⟨⟨j + 1, _, _, _, by omega, by simp, ⟨z4.trans (Bel.of b5) (by omega), z5.of_block (b5.block gv (Nat.lt_succ_self _)), hlo, t5⟩⟩, by simp [intOf]; omega⟩
    · obtain rfl : j = n := by omega
      have hnl : ¬ ((j : Int) < (j : Int)) := by omega
      go_wp2
      exact hnext _ gv vN vS vC _ wr ⟨_, tdc_mk rfl⟩ hI
end
end Go.Proofs.YtlghjjennhpjeaaGreatDoor

/-
  One call of cairn.Decode beside those that leave.
-/
namespace Go.Proofs.YtlghjjennhpjeaaGreatDoor
open Go.RowKit Go.Deep Go.Lf Go.Conc Go.ConcN Go.Gh Go.Hp

section
variable {X : Nat → Prop} {Y : Nat → Option Obj} {D : Nat → World → Array Event → Prop} {Stop : Goroutine → World → Prop} {w : World} {cs : List Frame} {fr : Frame} {gv n : Nat} {vt vb ve : Value} {T : Array Value}
set_option maxHeartbeats 8000000 in
set_option maxRecDepth 100000 in
theorem dc_in (hDk : Dok X D) (hT : TE1 gv n vt T)
    (hnext : ∀ T', TE1 gv n vt T' → ReaI Tryz.prog X Y D Stop 10 (frDc T' :: cs) [.code adBody] ⟨#[vt] ++ Array.replicate 34 undef, []⟩ w) :
    ReaI Tryz.prog X Y D Stop 5 cs [.code dc11] ⟨T, []⟩ w := by
  obtain ⟨g, rfl⟩ := hT
  unfold Tdc
  rw [dc11_eq]
  refine reachI_split hDk rfl (reaI_region hDk ?_)
  rw [cO11_size]
  simp only [List.range, List.range.loop]
  refine reaR_op goodA hDk vt (by simp only [cO11, qc11]; rfl) rfl (by kernel_rfl) (fun z _ => by go_simp) ?_
  walk_nrm
  refine reaR_call hDk (by simp only [cO11, qc11]; rfl) rfl (by rfl) Tryz.func10 (by kernel_rfl) (c := adBody) (by kernel_rfl) (vs := #[vt]) (n := 34) (by simp [Act.eval]) (by kernel_rfl) ?_
  unfold frDc at hnext
  exact hnext _ ⟨_, tdc_mk rfl⟩
set_option maxHeartbeats 8000000 in
set_option maxRecDepth 100000 in
theorem dc_back (hDk : Dok X D) (hT : TE1 gv n vt T)
    (hnext : ∀ T', TE2 gv n vb ve T' → ReaR Tryz.prog X Y D Stop none [] 5 cs [.code dc12] T' w) :
    ∀ z, SimT X Y z w → GoesI Tryz.prog D Stop (G ((frDc T).finish (.tuple #[vb, ve])) cs) z := by
  rw [show frDc T = Dn none [] 5 T (.inRegion cO11 [1, 2, 3, 4, 5, 6] :: [.code dc12]) from rfl]
  rw [Dn_finish (by simp only [cO11, qc11]; rfl)]
  show ReaR _ _ _ _ _ _ _ _ _ _ _ _
  obtain ⟨g, rfl⟩ := hT
  unfold Tdc
  walk_nrm
  refine reaR_op goodA hDk (.tuple #[vb, ve]) (by simp only [cO11, qc11]; rfl) rfl (by kernel_rfl) (fun z _ => by go_simp) ?_
  walk_nrm
  refine reaR_op goodA hDk vb (by simp only [cO11, qc11]; rfl) rfl (by kernel_rfl) (fun z _ => by go_simp) ?_
  walk_nrm
  refine reaR_op goodA hDk ve (by simp only [cO11, qc11]; rfl) rfl (by kernel_rfl) (fun z _ => by go_simp) ?_
  walk_nrm
  refine reaR_op goodA hDk vb (by simp only [cO11, qc11]; rfl) rfl (by kernel_rfl) (fun z _ => by go_simp) ?_
  walk_nrm
  refine reaR_op goodA hDk ve (by simp only [cO11, qc11]; rfl) rfl (by kernel_rfl) (fun z _ => by go_simp) ?_
  walk_nrm
  exact reaR_endReg hDk (hnext _ ⟨_, tdc_mk rfl⟩)
set_option maxHeartbeats 8000000 in
set_option maxRecDepth 100000 in
theorem dc_end (hDk : Dok X D) (hT : TE2 gv n vb ve T) (hE : ErrT w) {e : Nat} (he : (e = 0 ∧ ve = .nilIface) ∨ ∃ p, Chain w 1 ve e p)
    (hnext : ∀ w', Bel w.heap.size w w' → ∀ z, SimT X Y z w' → GoesI Tryz.prog D Stop (G (fr.finish (.tuple #[vb, .slice (some ⟨gv, 0, none⟩) n n, .int .i64 (e : Int)])) cs) z) :
    ReaI Tryz.prog X Y D Stop 5 (fr :: cs) [.code dc12] ⟨T, []⟩ w := by
  refine reaI_tail goodA hDk (by kernel_rfl) Tryz.func5 (R := fun y w' => y = .tuple #[vb, .slice (some ⟨gv, 0, none⟩) n n, .int .i64 (e : Int)] ∧ Bel w.heap.size w w') (fun τ d => ?_) (fun y v' ⟨h1, h2⟩ => h1 ▸ hnext v' h2)
  have bl : Bel w.heap.size w { w with tape := τ, drawn := d } := (Bel.refl _ w).tp τ d
  have hE' : ErrT { w with tape := τ, drawn := d } := hE
  have k1 : Calls Tryz.prog 11 #[ve] { w with tape := τ, drawn := d } fun r w' => ∃ p : Nat, r = .returned (.tuple #[.int .i64 (e : Int), .int .i64 (p : Int)]) ∧ Below ({ w with tape := τ, drawn := d } : World).heap.size { w with tape := τ, drawn := d } w' := by
    rcases he with ⟨rfl, rfl⟩ | ⟨p, hc⟩
    · refine (answer_nil _).mono ?_
      rintro r w' ⟨rfl, hb⟩
      exact ⟨0, rfl, hb⟩
    · refine (answer_chain 1 (by omega) ve e p _ (chain_tp τ d hc) hE').mono ?_
      rintro r w' ⟨rfl, hb⟩
      exact ⟨p, rfl, hb⟩
  generalize ({ w with tape := τ, drawn := d } : World) = wA at bl k1 ⊢
  obtain ⟨f, rfl⟩ := hT
  unfold Tdc
  conv in dc12 => simp only [dc12, dc11, dcBody, gSnd, Tryz.f5, Option.getD_some]
  go_wp2_with (first | (go_at_call 11; (with_reducible refine k1.mono ?_); rintro r w1 ⟨p, rfl, hb1⟩))
  go_ret3
  exact ⟨_, rfl, rfl, bl.trans (Bel.of hb1) bl.size'⟩
end
/-- What Decode tells of the shards that were taken, by their indexes. -/
def DecR (M : Nat) (sh : Nat → Shd) (vb : Value) (e : Nat) (w : World) : Prop :=
  (e ≠ 0 ∧ vb = .slice none 0 0 ∧ (TogE M sh e ∨ (e = 13 ∧ TogE M sh 0 ∧ ¬ ∃ l, FitsC M sh l))) ∨
  (e = 0 ∧ TogE M sh 0 ∧ ∃ l gb vd, FitsC M sh l ∧ (∀ l', FitsC M sh l' → l' = l) ∧ vb = .slice (some ⟨gb, 0, none⟩) (sh 0).names.length (sh 0).names.length ∧ CB (sh 0).names (sh 0).sizes l gb (sh 0).names.length vd w)
theorem CB.sub {ns : List (List UInt8)} {sz : List Nat} {l : List UInt8} {g i : Nat} {vd : Nat → Value} {w w' : World} (h : CB ns sz l g i vd w) (hs : Sub w w') : CB ns sz l g i vd w' := by
  refine ⟨?_, fun j hj => owns_sub (h.dat j hj) hs⟩
  obtain ⟨c, h1, h2, h3⟩ := h.row
  exact ⟨c, hs.2 _ _ _ _ h1, h2, h3⟩

set_option maxHeartbeats 1000000 in
set_option maxRecDepth 100000 in
theorem decode_call {Fin : Machine → Trace → Prop} (hpre : ∀ m m' ops t, stepT Tryz.prog m = (.next m', ops) → Fin m' (t ++ ops) → Fin m t) {X : Nat → Prop} {Y : Nat → Option Obj} {e : Nat} {gs : Array Goroutine} {W v0 : World} {sl : Option (Nat × Nat)} {t : Trace} {qq : Nat → Nat} {fr : Frame} {cs : List Frame} {n cap : Nat} {bi : Option Addr} {bs : Nat → List UInt8} {vi : Nat → Value} {a : Addr}
    (h0 : gs[0]? = some (G ((base 5).at ⟨#[.slice bi n cap] ++ Array.replicate 55 undef, []⟩ [.code dcBody]) (fr :: cs))) (hB : Bes Tryz.prog (ShunX X) e gs W t qq) (hs : SimT X Y W v0)
    (hS : SlB v0 bi n bs vi) (hn : n ≤ 1048576) (hGl : Gl a v0) (he : e + 256 < 2147483648)
    (hnext : ∀ (e' : Nat) (g : Nat → Nat) (vb : Value) (er gv : Nat) (X' : Nat → Prop) (gs' : Array Goroutine) (W' : World) (sl' : Option (Nat × Nat)) (t' : Trace) (q' : Nat → Nat) (Y' : Nat → Option Obj) (v' : World), e' ≤ e + 256 → Prm (tkL bs n).length g → (∀ i, i + 1 < (tkL bs n).length → (shAt (tkL bs n) (g i)).i ≤ (shAt (tkL bs n) (g (i + 1))).i) → gs'[0]? = some (G (fr.finish (.tuple #[vb, .slice (some ⟨gv, 0, none⟩) n n, .int .i64 (er : Int)])) cs) →
      Bes Tryz.prog (ShunX X') e' gs' W' t' q' → SimT X' Y' W' v' → (∀ b, X b → X' b) → (∀ b, X' b → X b ∨ W.heap.size ≤ b) → Sub v0 v' → KpX X W W' → (∀ i, i < n → v'.cell? ⟨gv, i, none⟩ = some (.int .i64 ((erS (bs i) : Nat) : Int))) → DecR (tkL bs n).length (fun i => shAt (tkL bs n) (g i)) vb er v' → Fin (crowd gs' W' sl') t') :
    Fin (crowd gs W sl) t := by
  let St : Goroutine → World → Prop := fun gr W => ∃ (T : Array Value) (gv : Nat) (vN vS vC : Nat → Value) (vt : Value) (v1 : World), TE1 gv n vt T ∧ DI v0 gv bs n n vN vS vC vt v1 ∧ gr = G ((base 10).at ⟨#[vt] ++ Array.replicate 34 undef, []⟩ [.code adBody]) (frDc T :: fr :: cs) ∧ SimT X Y W v1
  have key := dc_pre (Stop := St) (Y := Y) (cs := fr :: cs) (cap := cap) (dokX X) hS hn hGl (fun T gv vN vS vC vt v1 a1 a2 => dc_in (dokX X) a1 fun T' a1' y hy => .stop fun d => ⟨T', gv, vN, vS, vC, vt, v1, a1', a2, rfl, hy.at d⟩)
  refine late (Fin := Fin) (Shun := ShunX X) (e := e) hpre (fun _ _ _ h => h) (fun gs1 a1 W1 sl1 t1 q1 h01 hst hB1 => ?_) (key W hs) W.drawn gs sl t qq h0 hB
  obtain ⟨T, gv, vN, vS, vC, vt, v1, hT, hI, rfl, hs1⟩ := hst W1.drawn
  replace hs1 : SimT X Y W1 v1 := hs1
  clear key hst
  have hk1 := kpX_sim hs hs1 hI.bel
  have hsub1 := bel_sub hI.bel
  have hz1 := hk1.size
  obtain ⟨bo, cp, rfl, hSd⟩ := hI.tk.sds (tkL_good bs n)
  have htl := tkL_len bs n
  refine arch_call hpre h01 hB1 hs1 hSd (by omega) (fun i hi => tkL_good bs n _ (by simp [shAt, List.getD_eq_getElem?_getD, List.getElem?_eq_getElem hi])) he ?_
  intro e2 g y X2 gs2 W2 sl2 t2 q2 Y2 v2 he2 hP hsr h02 hB2 hs2 hXa hXb hsub2 hk2 hA
  have hsub12 := hsub1.trans hsub2
  have hE2 : ErrT v2 := (hGl.sub hsub12).errT
  have hX2 : ∀ b, X2 b → X b ∨ W.heap.size ≤ b := fun b hb => (hXb b hb).imp id fun h => by omega
  have hver : ∀ v3, Sub v2 v3 → ∀ i, i < n → v3.cell? ⟨gv, i, none⟩ = some (.int .i64 ((erS (bs i) : Nat) : Int)) := fun v3 h3 i hi => by
    have := hI.row.cell (i := i) hi
    rw [if_pos hi] at this
    exact (hsub2.trans h3).cell this
  have fin : ∀ (vb ve : Value) (er : Nat), y = .tuple #[vb, ve] → ((er = 0 ∧ ve = .nilIface) ∨ ∃ p, Chain v2 1 ve er p) → DecR (tkL bs n).length (fun i => shAt (tkL bs n) (g i)) vb er v2 → (∀ v3, Sub v2 v3 → DecR (tkL bs n).length (fun i => shAt (tkL bs n) (g i)) vb er v3) → Fin (crowd gs2 W2 sl2) t2 := fun vb ve er hy hv _ hR => by
    subst hy
    let St4 : Goroutine → World → Prop := fun gr W => ∃ v3, Bel v2.heap.size v2 v3 ∧ gr = G (fr.finish (.tuple #[vb, .slice (some ⟨gv, 0, none⟩) n n, .int .i64 (er : Int)])) cs ∧ SimT X2 Y2 W v3
    have key4 := dc_back (Stop := St4) (Y := Y2) (cs := fr :: cs) (w := v2) (vb := vb) (ve := ve) (dokX X2) hT (fun T4 hT4 => reaR_I.2 (dc_end (Stop := St4) (dokX X2) hT4 hE2 hv (fun w' b1 z hz => .stop fun d => ⟨w', b1, rfl, hz.at d⟩)))
    refine late (Fin := Fin) (Shun := ShunX X2) (e := e2) hpre (fun _ _ _ h => h) (fun gs4 a4 W4 sl4 t4 q4 h04 hst hB4 => ?_) (key4 W2 hs2) W2.drawn gs2 sl2 t2 q2 h02 hB2
    obtain ⟨v3, b1, rfl, b3⟩ := hst W4.drawn
    replace b3 : SimT X2 Y2 W4 v3 := b3
    have hs3 := bel_sub b1
    exact hnext e2 g vb er gv X2 gs4 W4 sl4 t4 q4 Y2 v3 he2 hP hsr h04 hB4 b3 hXa hX2 (hsub12.trans hs3) ((hk1.trans hk2 fun x hx => .inl hx).trans (kpX_sim hs2 b3 b1) hX2) (hver v3 hs3) (hR v3 hs3)
  rcases hA with ⟨er, ev, p, hE, hne, hy, hc⟩ | ⟨hE, hno, ev, p, hy, hc⟩ | ⟨hE, l, gb, vd, hF, hU, hy, hC⟩
  · exact fin _ _ er hy (.inr ⟨p, hc⟩) (.inl ⟨hne, rfl, .inl hE⟩) fun v3 _ => .inl ⟨hne, rfl, .inl hE⟩
  · exact fin _ _ 13 hy (.inr ⟨p, hc⟩) (.inl ⟨by decide, rfl, .inr ⟨rfl, hE, hno⟩⟩) fun v3 _ => .inl ⟨by decide, rfl, .inr ⟨rfl, hE, hno⟩⟩
  · exact fin _ _ 0 hy (.inl ⟨rfl, rfl⟩) (.inr ⟨rfl, hE, l, gb, vd, hF, hU, rfl, hC⟩) fun v3 h3 => .inr ⟨rfl, hE, l, gb, vd, hF, hU, rfl, hC.sub h3⟩
end Go.Proofs.YtlghjjennhpjeaaGreatDoor

/-
  sameBlobs: run alone.
-/
namespace Go.Proofs.YtlghjjennhpjeaaGreatDoor
open Go.RowKit Go.Deep

/-- Blobs, where they lie. -/
structure BlS (w : World) (bo : Option Addr) (m : Nat) (ns D : Nat → List UInt8) (vd : Nat → Value) : Prop where
  cells : 0 < m → ∃ b o, bo = some ⟨b, o, none⟩ ∧ ∀ i, i < m → w.cell? ⟨b, o + i * 2, none⟩ = some (.string ⟨(ns i).toArray⟩) ∧ w.cell? ⟨b, o + i * 2 + 1, none⟩ = some (vd i)
  dat : ∀ i, i < m → Lies w (vd i) (u8V (D i))
end Go.Proofs.YtlghjjennhpjeaaGreatDoor

/-
  The statement Same from its first Encode to its end.
-/
namespace Go.Proofs.YtlghjjennhpjeaaGreatDoor
open Go.RowKit Go.Deep Go.Lf Go.Conc Go.Hp

/-- .. with the first list of shards. -/
def TSm2 (pb : Nat) (vb vt va : Value) (T : Array Value) : Prop := ∃ f : Nat → Value, T = #[f 0, f 1, f 2, f 3, f 4, f 5, f 6, f 7, f 8, f 9, f 10, .pointer (some ⟨pb, 0, none⟩), vb, f 13, vt, f 15, va, .int .i64 0, f 18, f 19, f 20, f 21, f 22, f 23, f 24, f 25, f 26, f 27, f 28, f 29, f 30, f 31, f 32, f 33, f 34, f 35, f 36, f 37, f 38, f 39, f 40, f 41, f 42, f 43, f 44, f 45, f 46, f 47, f 48, f 49, f 50, f 51, f 52, f 53, f 54, f 55, f 56, f 57, f 58, f 59, f 60, f 61, f 62, f 63, f 64, f 65, f 66, f 67, f 68, f 69, f 70, f 71, f 72, f 73, f 74, f 75, f 76, f 77, f 78, f 79, f 80, f 81, f 82, f 83, f 84, f 85, f 86, f 87, f 88, f 89, f 90, f 91, f 92, f 93, f 94, f 95, f 96, f 97, f 98, f 99, f 100, f 101, f 102, f 103, f 104, f 105, f 106, f 107, f 108, f 109, f 110, f 111, f 112, f 113, f 114, f 115, f 116, f 117, f 118, f 119, f 120]
theorem ts2_mk {pb : Nat} {vb vt va : Value} {T : Array Value} (h : T = #[T.getD 0 undef, T.getD 1 undef, T.getD 2 undef, T.getD 3 undef, T.getD 4 undef, T.getD 5 undef, T.getD 6 undef, T.getD 7 undef, T.getD 8 undef, T.getD 9 undef, T.getD 10 undef, .pointer (some ⟨pb, 0, none⟩), vb, T.getD 13 undef, vt, T.getD 15 undef, va, .int .i64 0, T.getD 18 undef, T.getD 19 undef, T.getD 20 undef, T.getD 21 undef, T.getD 22 undef, T.getD 23 undef, T.getD 24 undef, T.getD 25 undef, T.getD 26 undef, T.getD 27 undef, T.getD 28 undef, T.getD 29 undef, T.getD 30 undef, T.getD 31 undef, T.getD 32 undef, T.getD 33 undef, T.getD 34 undef, T.getD 35 undef, T.getD 36 undef, T.getD 37 undef, T.getD 38 undef, T.getD 39 undef, T.getD 40 undef, T.getD 41 undef, T.getD 42 undef, T.getD 43 undef, T.getD 44 undef, T.getD 45 undef, T.getD 46 undef, T.getD 47 undef, T.getD 48 undef, T.getD 49 undef, T.getD 50 undef, T.getD 51 undef, T.getD 52 undef, T.getD 53 undef, T.getD 54 undef, T.getD 55 undef, T.getD 56 undef, T.getD 57 undef, T.getD 58 undef, T.getD 59 undef, T.getD 60 undef, T.getD 61 undef, T.getD 62 undef, T.getD 63 undef, T.getD 64 undef, T.getD 65 undef, T.getD 66 undef, T.getD 67 undef, T.getD 68 undef, T.getD 69 undef, T.getD 70 undef, T.getD 71 undef, T.getD 72 undef, T.getD 73 undef, T.getD 74 undef, T.getD 75 undef, T.getD 76 undef, T.getD 77 undef, T.getD 78 undef, T.getD 79 undef, T.getD 80 undef, T.getD 81 undef, T.getD 82 undef, T.getD 83 undef, T.getD 84 undef, T.getD 85 undef, T.getD 86 undef, T.getD 87 undef, T.getD 88 undef, T.getD 89 undef, T.getD 90 undef, T.getD 91 undef, T.getD 92 undef, T.getD 93 undef, T.getD 94 undef, T.getD 95 undef, T.getD 96 undef, T.getD 97 undef, T.getD 98 undef, T.getD 99 undef, T.getD 100 undef, T.getD 101 undef, T.getD 102 undef, T.getD 103 undef, T.getD 104 undef, T.getD 105 undef, T.getD 106 undef, T.getD 107 undef, T.getD 108 undef, T.getD 109 undef, T.getD 110 undef, T.getD 111 undef, T.getD 112 undef, T.getD 113 undef, T.getD 114 undef, T.getD 115 undef, T.getD 116 undef, T.getD 117 undef, T.getD 118 undef, T.getD 119 undef, T.getD 120 undef]) : TSm2 pb vb vt va T := ⟨fun i => T.getD i undef, h⟩
/-- .. with the list that bears a blob twice. -/
def TS3 (pb : Nat) (vc : Value) (T : Array Value) : Prop := ∃ f : Nat → Value, T = #[f 0, f 1, f 2, f 3, f 4, f 5, f 6, f 7, f 8, f 9, f 10, .pointer (some ⟨pb, 0, none⟩), f 12, f 13, f 14, f 15, f 16, f 17, f 18, f 19, f 20, vc, f 22, f 23, f 24, f 25, f 26, f 27, f 28, f 29, f 30, f 31, f 32, f 33, f 34, f 35, f 36, f 37, f 38, f 39, f 40, f 41, f 42, f 43, f 44, f 45, f 46, f 47, f 48, f 49, f 50, f 51, f 52, f 53, f 54, f 55, f 56, f 57, f 58, f 59, f 60, f 61, f 62, f 63, f 64, f 65, f 66, f 67, f 68, f 69, f 70, f 71, f 72, f 73, f 74, f 75, f 76, f 77, f 78, f 79, f 80, f 81, f 82, f 83, f 84, f 85, f 86, f 87, f 88, f 89, f 90, f 91, f 92, f 93, f 94, f 95, f 96, f 97, f 98, f 99, f 100, f 101, f 102, f 103, f 104, f 105, f 106, f 107, f 108, f 109, f 110, f 111, f 112, f 113, f 114, f 115, f 116, f 117, f 118, f 119, f 120]
theorem ts3_mk {pb : Nat} {vc : Value} {T : Array Value} (h : T = #[T.getD 0 undef, T.getD 1 undef, T.getD 2 undef, T.getD 3 undef, T.getD 4 undef, T.getD 5 undef, T.getD 6 undef, T.getD 7 undef, T.getD 8 undef, T.getD 9 undef, T.getD 10 undef, .pointer (some ⟨pb, 0, none⟩), T.getD 12 undef, T.getD 13 undef, T.getD 14 undef, T.getD 15 undef, T.getD 16 undef, T.getD 17 undef, T.getD 18 undef, T.getD 19 undef, T.getD 20 undef, vc, T.getD 22 undef, T.getD 23 undef, T.getD 24 undef, T.getD 25 undef, T.getD 26 undef, T.getD 27 undef, T.getD 28 undef, T.getD 29 undef, T.getD 30 undef, T.getD 31 undef, T.getD 32 undef, T.getD 33 undef, T.getD 34 undef, T.getD 35 undef, T.getD 36 undef, T.getD 37 undef, T.getD 38 undef, T.getD 39 undef, T.getD 40 undef, T.getD 41 undef, T.getD 42 undef, T.getD 43 undef, T.getD 44 undef, T.getD 45 undef, T.getD 46 undef, T.getD 47 undef, T.getD 48 undef, T.getD 49 undef, T.getD 50 undef, T.getD 51 undef, T.getD 52 undef, T.getD 53 undef, T.getD 54 undef, T.getD 55 undef, T.getD 56 undef, T.getD 57 undef, T.getD 58 undef, T.getD 59 undef, T.getD 60 undef, T.getD 61 undef, T.getD 62 undef, T.getD 63 undef, T.getD 64 undef, T.getD 65 undef, T.getD 66 undef, T.getD 67 undef, T.getD 68 undef, T.getD 69 undef, T.getD 70 undef, T.getD 71 undef, T.getD 72 undef, T.getD 73 undef, T.getD 74 undef, T.getD 75 undef, T.getD 76 undef, T.getD 77 undef, T.getD 78 undef, T.getD 79 undef, T.getD 80 undef, T.getD 81 undef, T.getD 82 undef, T.getD 83 undef, T.getD 84 undef, T.getD 85 undef, T.getD 86 undef, T.getD 87 undef, T.getD 88 undef, T.getD 89 undef, T.getD 90 undef, T.getD 91 undef, T.getD 92 undef, T.getD 93 undef, T.getD 94 undef, T.getD 95 undef, T.getD 96 undef, T.getD 97 undef, T.getD 98 undef, T.getD 99 undef, T.getD 100 undef, T.getD 101 undef, T.getD 102 undef, T.getD 103 undef, T.getD 104 undef, T.getD 105 undef, T.getD 106 undef, T.getD 107 undef, T.getD 108 undef, T.getD 109 undef, T.getD 110 undef, T.getD 111 undef, T.getD 112 undef, T.getD 113 undef, T.getD 114 undef, T.getD 115 undef, T.getD 116 undef, T.getD 117 undef, T.getD 118 undef, T.getD 119 undef, T.getD 120 undef]) : TS3 pb vc T := ⟨fun i => T.getD i undef, h⟩

section
variable {X : Nat → Prop} {Y : Nat → Option Obj} {D : Nat → World → Array Event → Prop} {Stop : Goroutine → World → Prop} {w : World} {h0 K N C m : Nat} {f : Nat → Ent} {Dt : Nat → List UInt8} {xs : List Nat} {pb : Nat} {vb vt va : Value}
/-- Alike but for the tape. -/
def EqW (w w' : World) : Prop := w'.heap = w.heap ∧ w'.os = w.os ∧ w'.output = w.output
theorem EqW.bel {w w' : World} (h : EqW w w') (B : Nat) : Bel B w w' := ⟨h.2.1, rfl, h.2.2, by rw [h.1]; exact Nat.le_refl _, fun k _ => by rw [h.1]⟩
/-- The blobs turned about, and the first once more. -/
def twice (f : Nat → Ent) (xs : List Nat) (m : Nat) : Nat → Ent := fun j => if j = m then f 0 else turn f xs j
/-- A list of shards, where it lies. -/
structure ShI (N bh : Nat) (L : Nat → List UInt8) (w : World) : Prop where
  at_ : ∀ i, i < N → ∃ v, w.cell? ⟨bh, i, none⟩ = some v ∧ Holds8 w v (L i)
theorem h8_heap {w w' : World} {v : Value} {l : List UInt8} (h : Holds8 w v l) (e : w'.heap = w.heap) : Holds8 w' v l := by
  have ec : ∀ a, w'.cell? a = w.cell? a := fun a => by simp only [World.cell?, e]
  rcases h with h2 | ⟨a, cap, h3, h4⟩
  · exact .inl h2
  · exact .inr ⟨a, cap, h3, fun j hj => by rw [ec]; exact h4 j hj⟩
theorem ShI.heap {N bh : Nat} {L : Nat → List UInt8} {w w' : World} (h : ShI N bh L w) (e : w'.heap = w.heap) : ShI N bh L w' := ⟨fun i hi => by
  obtain ⟨v, h1, h2⟩ := h.at_ i hi
  have ec : ∀ a, w'.cell? a = w.cell? a := fun a => by simp only [World.cell?, e]
  exact ⟨v, by rw [ec]; exact h1, h8_heap h2 e⟩⟩
theorem SmS.eqw {w w' : World} (h : SmS h0 K N C m f Dt xs pb vb vt w) (e : EqW w w') : SmS h0 K N C m f Dt xs pb vb vt w' := ⟨h.pre.bel (e.bel w.heap.size) (Nat.le_refl _), by obtain ⟨B, h1, h2⟩ := h.owt; exact ⟨B, h1, owns_bel h2 (e.bel w.heap.size) (Nat.le_refl _)⟩, h.once⟩
theorem SmS.grow {wB w1 : World} {Bt gg cc : Nat} {o : Obj} (h : SmS h0 K N C m f Dt xs pb vb vt wB) (hot : wB.ownsRow Bt 63 2 vt m (blobL m (turn f xs))) (hBt : h0 ≤ Bt) (hBl : Bt ≤ wB.heap.size) (hm : 0 < m)
    (ho : w1.ownsRow Bt 63 2 (.slice (some ⟨gg, 0, none⟩) (m + 1) cc) (m + 1) (blobL m (turn f xs) ++ [.string ⟨(f 0).k.toArray⟩, .slice (f 0).a (f 0).l (f 0).c])) (hg : (wB.alloc o).grownBy w1 vt.ownBlock) :
    Args w1 (some ⟨gg, 0, none⟩) (m + 1) cc (twice f xs m) (dOf Dt) ∧ RowAt w1 pb [.int .i64 ((K : Nat) : Int), .int .i64 ((N : Nat) : Int), .int .i64 ((C : Nat) : Int)] 60 ∧ Bel h0 wB w1 := by
  have hm5 := h.pre.hm
  have hk : ∀ {B n : Nat} {v : Value} {xs : List Value}, wB.ownsRow B 5 1 v n xs → w1.ownsRow B 5 1 v n xs := fun hx => owns_keep' hx fun g hg' => by
    have hlt := (hx.lt g hg').2
    rw [hg.block g (by simp; omega) (fun e => kind_ne hot hx (by decide) e.symm hg'), Below.heap_alloc _ _ _ hlt]
  have e1 : blobL m (turn f xs) ++ [.string ⟨(f 0).k.toArray⟩, .slice (f 0).a (f 0).l (f 0).c] = blobL (m + 1) (twice f xs m) := by
    rw [blobL_succ, blobL_congr (f := twice f xs m) (g := turn f xs) fun i hi => by unfold twice; rw [if_neg (by omega)]]
    unfold twice
    rw [if_pos rfl]
    rfl
  rw [e1] at ho
  obtain ⟨bo, cap, e2, h1, h2, hB⟩ := BC.of_owns ho
  cases e2
  have key : ∀ i, i < m + 1 → ∃ j, j < m ∧ twice f xs m i = f j := fun i hi => by
    unfold twice
    split
    · exact ⟨0, by omega, rfl⟩
    · exact turn_of h.once i (by omega)
  refine ⟨⟨by omega, h1, h2, fun i hi => ?_, fun i hi => ?_, hB, fun i hi => ?_⟩, ?_, ?_⟩
  · obtain ⟨j, hj, e⟩ := key i hi
    rw [e, h.pre.nm j hj]
    simp [nmOf]
  · obtain ⟨j, hj, e⟩ := key i hi
    have := (h.pre.len2 j hj).2
    rw [e]
    omega
  · obtain ⟨j, hj, e⟩ := key i hi
    obtain ⟨B, hd⟩ := h.pre.dat j hj
    rw [e, dOf_nm Dt (by omega) (h.pre.nm j hj)]
    exact data_owns (hk hd)
  · have hlt := h.pre.par.lt
    unfold RowAt
    rw [hg.block pb (by simp; omega) (fun e => by
      obtain ⟨c2, f2, h2⟩ := Lib.ownsRow_kind hot pb e.symm
      have h3 := h.pre.par
      unfold RowAt at h3
      rw [h3] at h2
      cases h2), Below.heap_alloc _ _ _ hlt]
    exact h.pre.par
  · exact Bel.of (((Below.refl h0 wB).alloc (by omega) o).grown hg (by simp; omega) (fun x hx => by have := (hot.lt x hx).1; omega))
def gThen : Code → Code | .cond _ c _ => c | c => c
end
end Go.Proofs.YtlghjjennhpjeaaGreatDoor

/-
  The statement Same, from its call to its return.
-/
namespace Go.Proofs.YtlghjjennhpjeaaGreatDoor
open Go.RowKit Go.Deep Go.Lf Go.Conc Go.ConcN Go.Gh Go.Hp
open Go.ConcR (Payload WgAt wgBlock)

/-- What stands of the real world: all below a bound. -/
structure Kz (h0 : Nat) (w w' : World) : Prop where
  os : w'.os = w.os
  output : w'.output = w.output
  size : w.heap.size ≤ w'.heap.size
  block : ∀ b, b < h0 → w'.heap[b]? = w.heap[b]?
theorem Kz.trans {h0 : Nat} {a b c : World} (h : Kz h0 a b) (h' : Kz h0 b c) : Kz h0 a c := ⟨h'.os.trans h.os, h'.output.trans h.output, Nat.le_trans h.size h'.size, fun x hx => (h'.block x hx).trans (h.block x hx)⟩
theorem kz_sim {h0 : Nat} {X : Nat → Prop} {Y : Nat → Option Obj} {W W' v v' : World} (hs : SimT X Y W v) (hs' : SimT X Y W' v') (hb : Bel h0 v v') (hX : ∀ b, X b → h0 ≤ b) : Kz h0 W W' := by
  obtain ⟨τ, d, h⟩ := hs
  obtain ⟨τ', d', h'⟩ := hs'
  refine ⟨h'.os.trans (Eq.trans (show v'.os = v.os from hb.os) h.os.symm), h'.out.trans (Eq.trans (show v'.output = v.output from hb.output) h.out.symm), ?_, fun b hlt => Sim.agree h h' (fun hx => by have := hX b hx; omega) (hb.blk hlt)⟩
  have e1 : W.heap.size = v.heap.size := h.size
  have e2 : W'.heap.size = v'.heap.size := h'.size
  have := hb.size'
  omega
theorem KpX.kz {h0 : Nat} {X : Nat → Prop} {W W' : World} (h : KpX X W W') (hX : ∀ b, X b → h0 ≤ b) (hW : h0 ≤ W.heap.size) : Kz h0 W W' := ⟨h.os, h.output, h.size, fun b hb => h.block b (by omega) (fun hx => by have := hX b hx; omega)⟩
theorem Ints.sub {w w' : World} {v : Value} {zs : List Int} (h : Ints w v zs) (hs : Sub w w') : Ints w' v zs := by
  refine ⟨h.in64, ?_⟩
  rcases h.lies with h1 | ⟨b, off, cap, h1, h2, h3⟩
  · exact .inl h1
  · exact .inr ⟨b, off, cap, h1, Nat.lt_of_lt_of_le h2 hs.1, fun j z hz => hs.cell (h3 j z hz)⟩

end Go.Proofs.YtlghjjennhpjeaaGreatDoor

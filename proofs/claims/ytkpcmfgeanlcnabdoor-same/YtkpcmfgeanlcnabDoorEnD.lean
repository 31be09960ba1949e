/-
  What the program takes from blobs: their names and sizes (content), their bytes (join): run alone.
-/
import Derived.Test.YtkpcmfgeanlcnabDoorEnC
import Derived.Test.YtkpcmfgeanlcnabDoorWrG
import Derived.Laws.AppendOwnNone
namespace Go.Proofs.YtkpcmfgeanlcnabDoor
open Go.RowKit Go.Deep Go.Hp

theorem Tryd.infoNm : (Tryd.prog.info? 9).map (fun i => (i.zero, i.size, i.bytes)) = some (some (.string ⟨#[]⟩), 1, 16) := by kernel_rfl
theorem Tryd.infoIn : (Tryd.prog.info? 3).map (fun i => (i.zero, i.size, i.bytes)) = some (some (.int .i64 0), 1, 8) := by kernel_rfl
def namesOf (n : Nat) (f : Nat → Ent) : List (List UInt8) := (List.range n).map fun i => (f i).k
def sizesOf (n : Nat) (f : Nat → Ent) : List Int := (List.range n).map fun i => ((f i).l : Int)
theorem namesOf_length (n : Nat) (f : Nat → Ent) : (namesOf n f).length = n := by simp [namesOf]
theorem sizesOf_length (n : Nat) (f : Nat → Ent) : (sizesOf n f).length = n := by simp [sizesOf]
theorem namesV_succ (n : Nat) (f : Nat → Ent) : nameV (namesOf (n + 1) f) = nameV (namesOf n f) ++ [.string ⟨(f n).k.toArray⟩] := by simp [nameV, namesOf, List.range_succ]
theorem sizesV_succ (n : Nat) (f : Nat → Ent) : intV (sizesOf (n + 1) f) = intV (sizesOf n f) ++ [.int .i64 ((f n).l : Int)] := by simp [intV, sizesOf, List.range_succ]
theorem one_strD (x : ByteArray) : ∀ u ∈ [Value.string x], u.oneCell' = true := by
  intro u hu
  simp at hu
  subst hu
  rfl
theorem one_intD (x : Int) : ∀ u ∈ [Value.int .i64 x], u.oneCell' = true := by
  intro u hu
  simp at hu
  subst hu
  rfl
theorem cell_one_newD (w : World) (x : Value) (t : TypeId) : ∀ j u, [x][j]? = some u → (w.alloc (.cells #[x] t)).cell? ((⟨w.heap.size, 0, none⟩ : Addr).add j) = some u := by
  intro j u hj
  match j, hj with
  | 0, hj => simp at hj; subst hj; simp [Addr.add]

def ContPost (n : Nat) (f : Nat → Ent) (w : World) (r : Ending) (w' : World) : Prop := Below w.heap.size w w' ∧ ∃ vn vs, r = .returned (.tuple #[vn, vs]) ∧ w'.ownsRow w.heap.size 9 1 vn n (nameV (namesOf n f)) ∧ w'.ownsRow w.heap.size 3 1 vs n (intV (sizesOf n f))

/-- A row appended to: other rows of other kinds stand. -/
theorem app_keep {w wa w1 : World} {B t t' s s' n n' : Nat} {v v' : Value} {xs xs' : List Value} (h : w.ownsRow B t s v n xs) (h' : w.ownsRow B t' s' v' n' xs') (ht : t ≠ t') (ha : Below w.heap.size w wa) (hg : wa.grownBy w1 v.ownBlock) : w1.ownsRow B t' s' v' n' xs' :=
  owns_keep' h' fun g hg' => (hg.block g (Nat.lt_of_lt_of_le (h'.lt g hg').2 ha.size) (fun e => kind_ne h h' ht e.symm hg')).trans (ha.block g (h'.lt g hg').2)
theorem app_below {w wa w1 : World} {B h0 t s n : Nat} {v : Value} {xs : List Value} (h : w.ownsRow B t s v n xs) (hB : B ≤ w.heap.size) (ha : Below w.heap.size w wa) (hg : wa.grownBy w1 v.ownBlock) (_ : h0 ≤ B) : Below B w w1 :=
  (ha.mono hB).grown hg (Nat.le_trans hB ha.size) (fun x hx => (h.lt x hx).1)
set_option maxHeartbeats 4000000 in
set_option maxRecDepth 100000 in
theorem content_any (n cap : Nat) (bo : Option Addr) (f : Nat → Ent) (w : World) (hn : n ≤ 1048576) (hB : BC w bo n f) :
    Calls Tryd.prog 18 #[.slice bo n cap] w fun r w' => ContPost n f w r w' := by
  obtain ⟨i0, hi0, hz0, hz1, hz2⟩ := info_parts Tryd.infoNm
  obtain ⟨i1, hi1, hy0, hy1, hy2⟩ := info_parts Tryd.infoIn
  have p0 : w.ownsRow w.heap.size 9 1 (.slice none 0 0) 0 (nameV (namesOf 0 f)) := World.ownsRow_nil _ _ _ _
  have q0 : w.ownsRow w.heap.size 3 1 (.slice none 0 0) 0 (intV (sizesOf 0 f)) := World.ownsRow_nil _ _ _ _
  go_enter Tryd.func18, Tryd.ntmps18
  go_wp2
  generalize hh : w.heap.size = h at *
  go_loopw [2, 3, 8] (fun va vb vi wr => ∃ (i : Nat), i ≤ n ∧ vi = .int .i64 ((i : Nat) : Int) ∧ wr.ownsRow h 9 1 va i (nameV (namesOf i f)) ∧ wr.ownsRow h 3 1 vb i (intV (sizesOf i f)) ∧ Below h w wr ∧ h ≤ wr.heap.size) (fun _ _ vi _ => n - (intOf vi).toNat)
  case atStart => exact ⟨0, by omega, rfl, p0, q0, Below.refl _ _, by omega⟩
  case round =>
    clear p0 q0
    obtain ⟨i, hi, rfl, hp, hq, hb, hs⟩ := hrel
    by_cases hlt : i < n
    · have hlt' : (i : Int) < (n : Int) := by omega
      obtain ⟨b, o, rfl, hbl, hcell⟩ := (hB.below hb (by omega)).here (by omega)
      obtain ⟨c0, c1⟩ := hcell i hlt
      clear hcell
      obtain ⟨e0, e1⟩ := new_blob wr (f i)
      have hp1 := hp.alloc (.cells #[.string ⟨(f i).k.toArray⟩, .slice (f i).a (f i).l (f i).c] 31)
      have hq1 := hq.alloc (.cells #[.string ⟨(f i).k.toArray⟩, .slice (f i).a (f i).l (f i).c] 31)
      have hb1 := hb.alloc (by omega) (.cells #[.string ⟨(f i).k.toArray⟩, .slice (f i).a (f i).l (f i).c] 31)
      have hs1 : h ≤ (wr.alloc (.cells #[.string ⟨(f i).k.toArray⟩, .slice (f i).a (f i).l (f i).c] 31)).heap.size := by simp; omega
      have nb : (wr.alloc (.cells #[.string ⟨(f i).k.toArray⟩, .slice (f i).a (f i).l (f i).c] 31)).ownsRow h 31 2 (.slice (some ⟨wr.heap.size, 0, none⟩) 1 1) 1 (blobC (f i)) :=
        ⟨rfl, .inr ⟨wr.heap.size, 1, #[.string ⟨(f i).k.toArray⟩, .slice (f i).a (f i).l (f i).c], rfl, hs, heap_alloc_new _ _, by omega, by unfold maxLen; omega, rfl, rfl⟩⟩
      simp only [strV, Ent.d] at c0 c1
      clear hp hq hb
      generalize hw1 : wr.alloc (.cells #[.string ⟨(f i).k.toArray⟩, .slice (f i).a (f i).l (f i).c] 31) = w1 at *
      go_wp2_with (first
        | (at_builtin; refine wpList_append_own _ rfl _ _ 52 rfl h 9 i0 (.string ⟨#[]⟩) 1 16 Tryd.underlying52 hi0 hz0 hz1 hz2 rfl (by decide) _ _ _ rfl (hp1.alloc _) ⟨w1.heap.size, 0, none⟩ 1 1 [.string ⟨(f i).k.toArray⟩] rfl rfl (cell_one_newD _ _ _) (one_strD _) (by unfold maxLen; omega) (by omega) (by simp; omega) ?_; intro v2 w2 hp2 hgrow _; have hq2 := app_keep hp1 hq1 (by decide) ((Below.refl w1.heap.size w1).alloc (Nat.le_refl _) _) hgrow; have nb2 := app_keep hp1 nb (by decide) ((Below.refl w1.heap.size w1).alloc (Nat.le_refl _) _) hgrow; have hb2 := hb1.trans (app_below hp1 hs1 ((Below.refl w1.heap.size w1).alloc (Nat.le_refl _) _) hgrow (Nat.le_refl _)); have hs2 : h ≤ w2.heap.size := hh ▸ hb2.size; have e1' : w2.cell? ⟨wr.heap.size, 1, none⟩ = some (.slice (f i).a (f i).l (f i).c) := nb2.cellAt 1 (by omega); clear hgrow hp1 hq1 nb hb1 e0 e1 c0 c1)
        | (at_builtin; refine wpList_append_own _ rfl _ _ 22 rfl h 3 i1 (.int .i64 0) 1 8 Tryd.underlying22 hi1 hy0 hy1 hy2 rfl (by decide) _ _ _ rfl (hq2.alloc _) ⟨w2.heap.size, 0, none⟩ 1 1 [.int .i64 ((f i).l : Int)] rfl rfl (cell_one_newD _ _ _) (one_intD _) (by unfold maxLen; omega) (by omega) (by simp; omega) ?_; intro v3 w3 hq3 hgrow _; have hp3 := app_keep hq2 hp2 (by decide) ((Below.refl w2.heap.size w2).alloc (Nat.le_refl _) _) hgrow; have hb3 := hb2.trans (app_below hq2 hs2 ((Below.refl w2.heap.size w2).alloc (Nat.le_refl _) _) hgrow (Nat.le_refl _)); clear hgrow hq2 hp2 hb2 e1'))
      go_roundw
      case rel => exact ⟨i + 1, by omega, by go_num, by rw [namesV_succ]; exact hp3, by rw [sizesV_succ]; exact hq3, hb3, hh ▸ hb3.size⟩
      case measure => simp [intOf]; omega
    · obtain rfl : i = n := by omega
      have hnl : ¬ ((i : Int) < (i : Int)) := by omega
      go_wp2
      go_ret2
      exact ⟨by rw [hh]; exact hb, _, _, rfl, by rw [hh]; exact hp, by rw [hh]; exact hq⟩

theorem addr_addD (b o j : Nat) : (⟨b, o, none⟩ : Addr).add j = ⟨b, o + j, none⟩ := by
  simp only [Addr.add]
  split
  · rename_i h; subst h; rfl
  · rfl
/-- The bytes of blobs, where they lie. -/
def DataAt (w : World) (e : Ent) (d : List UInt8) : Prop := d.length = e.l ∧ ((e.a = none ∧ e.l = 0 ∧ e.c = 0) ∨ ∃ ad : Addr, e.a = some ad ∧ ∀ j u, (u8V d)[j]? = some u → w.cell? (ad.add j) = some u)
theorem DataAt.below {w w' : World} {e : Ent} {d : List UInt8} {B : Nat} (h : DataAt w e d) (hb : Below B w w') (hB : w.heap.size ≤ B) : DataAt w' e d := by
  refine ⟨h.1, ?_⟩
  rcases h.2 with h2 | ⟨ad, h2, h4⟩
  · exact .inl h2
  · exact .inr ⟨ad, h2, fun j u hj => (hb.cell (p := ad.add j) (Nat.lt_of_lt_of_le (cell_lt (h4 j u hj)) hB)).trans (h4 j u hj)⟩
def joinD (D : Nat → List UInt8) : Nat → List UInt8
  | 0 => []
  | n + 1 => joinD D n ++ D n
theorem u8V_oneD (l : List UInt8) : ∀ u ∈ u8V l, u.oneCell' = true := by
  intro u hu
  simp [u8V] at hu
  obtain ⟨_, _, rfl⟩ := hu
  rfl
theorem joinD_le (D : Nat → List UInt8) {i n : Nat} (h : i ≤ n) : (joinD D i).length ≤ (joinD D n).length := by
  induction n with
  | zero => obtain rfl : i = 0 := by omega
            exact Nat.le_refl _
  | succ n ih =>
    by_cases e : i = n + 1
    · rw [e]; exact Nat.le_refl _
    · have := ih (by omega)
      simp only [joinD, List.length_append]
      omega

set_option maxHeartbeats 4000000 in
set_option maxRecDepth 100000 in
theorem join_any (n cap : Nat) (bo : Option Addr) (f : Nat → Ent) (D : Nat → List UInt8) (w : World) (hn : n ≤ 1048576) (hB : BC w bo n f) (hD : ∀ i, i < n → DataAt w (f i) (D i)) (ht : (joinD D n).length ≤ 1048576) :
    Calls Tryd.prog 22 #[.slice bo n cap] w fun r w' => Below w.heap.size w w' ∧ ∃ v, r = .returned v ∧ OwnB w.heap.size w' v (joinD D n) := by
  obtain ⟨i0, hi0, hz0, hz1, hz2⟩ := info_parts infoB8
  have p0 : w.ownsRow w.heap.size 5 1 (.slice none 0 0) (joinD D 0).length (u8V (joinD D 0)) := World.ownsRow_nil _ _ _ _
  go_enter Tryd.func22, Tryd.ntmps22
  go_wp2
  generalize hh : w.heap.size = h at *
  go_loopw [3, 8] (fun va vi wr => ∃ (i : Nat), i ≤ n ∧ vi = .int .i64 ((i : Nat) : Int) ∧ wr.ownsRow h 5 1 va (joinD D i).length (u8V (joinD D i)) ∧ Below h w wr ∧ h ≤ wr.heap.size) (fun _ vi _ => n - (intOf vi).toNat)
  case atStart => exact ⟨0, by omega, rfl, p0, Below.refl _ _, by omega⟩
  case round =>
    clear p0
    obtain ⟨i, hi, rfl, hp, hb, hs⟩ := hrel
    by_cases hlt : i < n
    · have hlt' : (i : Int) < (n : Int) := by omega
      obtain ⟨b, o, rfl, hbl, hcell⟩ := (hB.below hb (by omega)).here (by omega)
      obtain ⟨c0, c1⟩ := hcell i hlt
      have hd := (hD i hlt).below hb (by omega)
      have hlen : (joinD D i).length + (D i).length ≤ 1048576 := by
        have := joinD_le D (i := i + 1) (n := n) (by omega)
        simp only [joinD, List.length_append] at this
        omega
      clear hcell
      obtain ⟨e0, e1⟩ := new_blob wr (f i)
      have hp1 := hp.alloc (.cells #[.string ⟨(f i).k.toArray⟩, .slice (f i).a (f i).l (f i).c] 31)
      have hb1 := hb.alloc (by omega) (.cells #[.string ⟨(f i).k.toArray⟩, .slice (f i).a (f i).l (f i).c] 31)
      have hd1 := hd.below ((Below.refl wr.heap.size wr).alloc (Nat.le_refl _) (.cells #[.string ⟨(f i).k.toArray⟩, .slice (f i).a (f i).l (f i).c] 31)) (Nat.le_refl _)
      have hs1 : h ≤ (wr.alloc (.cells #[.string ⟨(f i).k.toArray⟩, .slice (f i).a (f i).l (f i).c] 31)).heap.size := by simp; omega
      simp only [strV, Ent.d] at c0 c1
      clear hp hb hd
      rcases hd1 with ⟨hdl, hd1⟩
      rcases hd1 with ⟨ea, el, ec⟩ | ⟨ad, ea, hcd⟩
      · have hnil : D i = [] := List.length_eq_zero_iff.1 (by omega)
        rw [ea, el, ec] at hp1 hb1 hs1 e0 e1 c1
        clear hdl
        clear ea el ec
        go_wp2_with (at_builtin; go_loud (refine wpList_append_own_none rfl _ _ 29 rfl h 5 i0 1 Tryd.underlying29 hi0 _ _ _ rfl hp1 rfl ?_))
        go_roundw
        case rel => exact ⟨i + 1, by omega, by go_num, by simp only [joinD, hnil, List.append_nil]; exact hp1, hb1, hs1⟩
        case measure => simp [intOf]; omega
      · rw [ea] at hp1 hb1 hs1 e0 e1 c1 hcd
        clear ea
        generalize hw1 : wr.alloc (.cells #[.string ⟨(f i).k.toArray⟩, .slice (some ad) (f i).l (f i).c] 31) = w1 at *
        go_wp2_with (at_builtin; go_loud (refine wpList_append_own _ rfl _ _ 29 rfl h 5 i0 (.int .u8 0) 1 1 Tryd.underlying29 hi0 hz0 hz1 hz2 rfl (by decide) _ _ _ rfl hp1 ad (f i).l (f i).c (u8V (D i)) rfl (by simp [u8V]; omega) (fun j u hj => hcd j u hj) (u8V_oneD _) (by unfold maxLen; omega) (by omega) hs1 ?_; intro v2 w2 hp2 hgrow _))
        have hb2 := hb1.trans (app_below hp1 hs1 (Below.refl _ _) hgrow (Nat.le_refl _))
        clear hgrow hp1 hb1
        go_roundw
        case rel => exact ⟨i + 1, by omega, by go_num, by rw [show (joinD D (i + 1)).length = (joinD D i).length + (f i).l by simp [joinD, hdl], show u8V (joinD D (i + 1)) = u8V (joinD D i) ++ u8V (D i) by simp [joinD, u8V]]; exact hp2, hb2, hh ▸ hb2.size⟩
        case measure => simp [intOf]; omega
    · obtain rfl : i = n := by omega
      have hnl : ¬ ((i : Int) < (i : Int)) := by omega
      go_wp2
      go_ret
      exact ⟨hb, _, rfl, hp⟩
end Go.Proofs.YtkpcmfgeanlcnabDoor

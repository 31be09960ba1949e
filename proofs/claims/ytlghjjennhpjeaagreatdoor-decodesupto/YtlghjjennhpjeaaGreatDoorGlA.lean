/-
  archive.cut: the blobs out of the data.
-/
import Derived.Test.YtlghjjennhpjeaaGreatDoorPcA
import Derived.Test.YtlghjjennhpjeaaGreatDoorLfF
import Derived.Test.YtlghjjennhpjeaaGreatDoorMul
import Derived.Test.YtlghjjennhpjeaaGreatDoorCoV
import Derived.Test.YtlghjjennhpjeaaGreatDoorDeB
namespace Go.Proofs.YtlghjjennhpjeaaGreatDoor
open Go.RowKit Go.Deep

/-- Blobs as far as they are made. -/
structure CB (ns : List (List UInt8)) (sz : List Nat) (l : List UInt8) (g i : Nat) (vd : Nat → Value) (w : World) : Prop where
  row : w.rowIs g 63 (ns.length * 2) (fun p => if p / 2 < i then (if p % 2 = 0 then strV (ns.getD (p / 2) []) else vd (p / 2)) else (if p % 2 = 0 then strV [] else .slice none 0 0))
  dat : ∀ j, j < i → w.ownsRow (g + 1) 5 1 (vd j) (pcB sz l j).length (u8V (pcB sz l j))
theorem CB.more {ns : List (List UInt8)} {sz : List Nat} {l : List UInt8} {g i : Nat} {vd : Nat → Value} {w w2 : World} {v' : Value} (h : CB ns sz l g i vd w) (hi : i < ns.length) (hg : g < w.heap.size) (hb : Below w.heap.size w w2) (ho : w2.ownsRow w.heap.size 5 1 v' (pcB sz l i).length (u8V (pcB sz l i))) :
    CB ns sz l g (i + 1) (fun j => if j = i then v' else vd j) ((w2.setCell ⟨g, i * 2, none⟩ (strV (ns.getD i []))).setCell ⟨g, i * 2 + 1, none⟩ v') ∧ (∃ u, w2.cell? ⟨g, i * 2, none⟩ = some u) ∧ w2.frozen? ⟨g, i * 2, none⟩ = false ∧ (∃ u, (w2.setCell ⟨g, i * 2, none⟩ (strV (ns.getD i []))).cell? ⟨g, i * 2 + 1, none⟩ = some u) ∧ (w2.setCell ⟨g, i * 2, none⟩ (strV (ns.getD i []))).frozen? ⟨g, i * 2 + 1, none⟩ = false := by
  have r := h.row.of_block (hb.block g hg)
  have r1 := r.set (i * 2) (strV (ns.getD i []))
  have r2 := r1.set (i * 2 + 1) v'
  refine ⟨⟨r2.congr fun p hp => ?_, fun j hj => ?_⟩, ⟨_, r.cell (i := i * 2) (by omega)⟩, r.frozen _, ⟨_, r1.cell (i := i * 2 + 1) (by omega)⟩, r1.frozen _⟩
  · by_cases e1 : p = i * 2 + 1
    · subst e1
      rw [if_pos rfl, if_pos (by omega), if_neg (by omega), if_pos (by omega)]
    · rw [if_neg e1]
      by_cases e2 : p = i * 2
      · subst e2
        rw [if_pos rfl, if_pos (by omega), if_pos (by omega), show i * 2 / 2 = i by omega]
      · rw [if_neg e2]
        by_cases e3 : p / 2 < i
        · simp only [e3, show p / 2 < i + 1 by omega, show ¬ p / 2 = i by omega, if_true, if_false]
        · simp only [e3, show ¬ p / 2 < i + 1 by omega, if_false]
  · have key : ∀ {v : Value} {m : Nat} {xs : List Value}, w2.ownsRow (g + 1) 5 1 v m xs → ((w2.setCell ⟨g, i * 2, none⟩ (strV (ns.getD i []))).setCell ⟨g, i * 2 + 1, none⟩ v').ownsRow (g + 1) 5 1 v m xs := fun o => ownsRow_setCell_below (ownsRow_setCell_below o (a := ⟨g, i * 2, none⟩) (Nat.lt_succ_self g) _) (a := ⟨g, i * 2 + 1, none⟩) (Nat.lt_succ_self g) _
    by_cases e : j = i
    · subst e
      rw [if_pos rfl]
      exact key (ho.mono (by omega))
    · rw [if_neg e]
      exact key (owns_below (h.dat j (by omega)) hb (Nat.le_refl _))
theorem Lies.owned {w : World} {B n : Nat} {v : Value} {xs : List Value} {t : TypeId} (h : w.ownsRow B t 1 v n xs) : Lies w v xs := by
  obtain ⟨hl, h⟩ := h
  rw [Nat.mul_one] at hl
  rcases h with ⟨rfl, rfl⟩ | ⟨g, cap, cur, rfl, h2, h3, h4, h5, h6, h7⟩
  · exact ⟨none, 0, by rw [hl], by omega, fun j u hj => by rw [List.eq_nil_of_length_eq_zero hl] at hj; simp at hj⟩
  · refine ⟨some ⟨g, 0, none⟩, cap, by rw [hl], by omega, fun j u hj => ⟨g, 0, rfl, ?_⟩⟩
    have hj' := (List.getElem?_eq_some_iff.1 hj).1
    rw [Nat.mul_one] at h7
    rw [Nat.zero_add, ← hj, ← h7, List.getElem?_take, if_pos (by omega)]
    simp [World.cell?, h3]
theorem make_blobsN (n : Nat) (hn : n ≤ 1048576) (w : World) : (Instr.makeSlice 25 (.int .i64 (n : Int)) (.int .i64 (n : Int))).run Tryz.prog w = .ok (.slice (some ⟨w.heap.size, 0, none⟩) n n) (w.alloc (.cells (madeCells #[.string ⟨#[]⟩, .slice none 0 0] (n * 2)) 63)) := by
  obtain ⟨i0, hi0, hz0, hz1, hz2⟩ := info_parts Tryz.infoBlob
  have := run_make (P := Tryz.prog) w 25 63 i0 _ Tryz.underlying25 hi0 hz0 .i64 .i64 n n (by omega) (by omega) (by rw [hz2]; omega) (by omega)
  rw [hz1] at this
  simp only [Int.toNat_natCast] at this
  exact this
theorem CB.start (ns : List (List UInt8)) (sz : List Nat) (l : List UInt8) (w : World) : CB ns sz l w.heap.size 0 (fun _ => undef) (w.alloc (.cells (madeCells #[.string ⟨#[]⟩, .slice none 0 0] (ns.length * 2)) 63)) := by
  refine ⟨?_, fun j hj => absurd hj (by omega)⟩
  have := World.rowIs_alloc w (madeCells #[.string ⟨#[]⟩, .slice none 0 0] (ns.length * 2)) 63 (fun p => if p / 2 < 0 then (if p % 2 = 0 then strV (ns.getD (p / 2) []) else undef) else (if p % 2 = 0 then strV [] else .slice none 0 0)) (fun i hi => by
    rw [size_madeCells] at hi
    rw [if_neg (by omega)]
    rcases Nat.mod_two_eq_zero_or_one i with e | e <;> simp [madeCells, hi, e, strV])
  rw [size_madeCells] at this
  exact this
set_option maxHeartbeats 4000000 in
set_option maxRecDepth 100000 in
theorem cutB_some (ns : List (List UInt8)) (sz : List Nat) (l : List UInt8) (vN vS : Value) (b off cap : Nat) (w : World) (hN : Lies w vN (nameV ns)) (hS : Lies w vS (natV sz)) (hD : Lies w (.slice (some ⟨b, off, none⟩) l.length cap) (u8V l)) (hcap : l.length ≤ cap) (hln : ns.length ≤ sz.length) (hsum : sz.sum ≤ l.length) (hn : ns.length ≤ 1048576) (hl : l.length ≤ 1048576) :
    Calls Tryz.prog 26 #[vN, vS, .slice (some ⟨b, off, none⟩) l.length cap] w fun r w' => Below w.heap.size w w' ∧ ∃ vd, r = .returned (.slice (some ⟨w.heap.size, 0, none⟩) ns.length ns.length) ∧ CB ns sz l w.heap.size ns.length vd w' := by
  obtain ⟨pn, cn, rfl⟩ := hN.len
  obtain ⟨ps, cs, rfl⟩ := hS.len
  rw [nameV_length] at hN ⊢
  rw [natV_length] at hS ⊢
  have mk := make_blobsN ns.length hn w
  have h0 := CB.start ns sz l w
  have b0 : Below w.heap.size w (w.alloc (.cells (madeCells #[.string ⟨#[]⟩, .slice none 0 0] (ns.length * 2)) 63)) := (Below.refl _ _).alloc (Nat.le_refl _) _
  go_enter Tryz.func26, Tryz.ntmps26
  go_wp2
  generalize w.alloc (.cells (madeCells #[.string ⟨#[]⟩, .slice none 0 0] (ns.length * 2)) 63) = w0 at *
  generalize hg : w.heap.size = g at *
  go_loopw [2, 8, 9, 15] (fun v2 _ _ vi wr => ∃ (i : Nat) (vd : Nat → Value) (o' : Nat), i ≤ ns.length ∧ vi = .int .i64 (i : Int) ∧ v2 = .slice (some ⟨b, o', none⟩) (l.length - pre sz i) (cap - pre sz i) ∧ (pre sz i < l.length → o' = off + pre sz i) ∧ Below g w wr ∧ CB ns sz l g i vd wr ∧ g < wr.heap.size) (fun _ _ _ vi _ => ns.length - (intOf vi).toNat)
  case atStart => exact ⟨0, _, off, by omega, rfl, by simp [pre], fun _ => by simp [pre], b0, h0, by have := h0.row.lt; omega⟩
  case round =>
    clear h0 b0
    obtain ⟨i, vd, o', hi, rfl, rfl, ho', hb, hC, hgs⟩ := hrel
    by_cases hlt : i < ns.length
    · have hlt1 : (i : Int) < (ns.length : Int) := by omega
      have hlt2 : (i : Int) < (sz.length : Int) := by omega
      have hp1 : pre sz i + sz.getD i 0 ≤ pre sz (i + 1) := Nat.le_of_eq (pre_succ (by omega)).symm
      have hp2 := pre_le sz (i + 1)
      obtain ⟨gn, on, rfl, c1⟩ := hN.get (nameV_at hlt)
      obtain ⟨gs, os, rfl, c2⟩ := hS.get (natV_at (l := sz) (j := i) (by omega))
      have lt1 := cell_lt c1
      have lt2 := cell_lt c2
      replace c1 := (hb.cell (p := ⟨gn, on + i, none⟩) (by rw [← hg]; exact lt1)).trans c1
      replace c2 := (hb.cell (p := ⟨gs, os + i, none⟩) (by rw [← hg]; exact lt2)).trans c2
      have hD1 := hD.belB hb (by omega)
      have hpart : Lies wr (.slice (some ⟨b, o', none⟩) (sz.getD i 0) (cap - pre sz i)) (u8V (pcB sz l i)) := by
        rcases Nat.eq_zero_or_pos (sz.getD i 0) with hq | hq
        · unfold pcB
          rw [hq]
          exact ⟨_, _, rfl, Nat.zero_le _, fun j u hj => by simp [u8V] at hj⟩
        · rw [ho' (by omega)]
          exact lies_part hD1 (s := pre sz i) (t := sz.getD i 0) (by omega) (cap - pre sz i) (by omega)
      have k1 := clone_any (pcB sz l i) _ wr hpart (by unfold pcB; simp; omega)
      have hmore := fun w2 v' hb2 ho => hC.more (w2 := w2) (v' := v') hlt hgs hb2 ho
      have hs1 : ((sz.getD i 0 : Nat) : Int) ≤ ((cap - pre sz i : Nat) : Int) := by omega
      have hs2 : ((sz.getD i 0 : Nat) : Int) ≤ ((l.length - pre sz i : Nat) : Int) := by omega
      have hfin : l.length - pre sz i - sz.getD i 0 = l.length - pre sz (i + 1) ∧ cap - pre sz i - sz.getD i 0 = cap - pre sz (i + 1) := by have := pre_succ (sz := sz) (i := i) (by omega); omega
      have hoff : pre sz (i + 1) < l.length → o' + sz.getD i 0 = off + pre sz (i + 1) := fun h => by have := pre_succ (sz := sz) (i := i) (by omega); have := ho' (by omega); omega
      have hz : cap - pre sz i ≤ sz.getD i 0 → l.length ≤ pre sz (i + 1) := fun h => by omega
      clear ho' hN hS hD1 hpart hC
      generalize pre sz i = p at *
      generalize sz.getD i 0 = q at *
      generalize l.length - p = n1 at *
      generalize cap - p = n2 at *
      unfold strV at hmore
      generalize ns.getD i [] = nm at c1 hmore
      go_wp2_with (first | (go_at_call 55; (with_reducible refine k1.mono ?_); rintro r w2 ⟨v', rfl, ho, hb2⟩; obtain ⟨bq, cq, rfl⟩ := (Lies.owned ho).len; obtain ⟨hC2, ⟨_, d1⟩, d2, ⟨_, d3⟩, d4⟩ := hmore w2 _ hb2 ho; have d5 := (hb2.cell (p := ⟨gs, os + i, none⟩) (by exact Nat.lt_of_lt_of_le (by rw [hg] at lt2; exact lt2) (Nat.le_of_lt hgs))).trans c2))
      have hb3 : Below g w ((w2.setCell ⟨g, i * 2, none⟩ (.string ⟨nm.toArray⟩)).setCell ⟨g, i * 2 + 1, none⟩ (.slice bq (u8V (pcB sz l i)).length cq)) := ((hb.trans (hb2.mono (Nat.le_of_lt hgs))).setCell (p := ⟨g, i * 2, none⟩) (Nat.le_refl _) _).setCell (p := ⟨g, i * 2 + 1, none⟩) (Nat.le_refl _) _
      have hs3 : g < ((w2.setCell ⟨g, i * 2, none⟩ (.string ⟨nm.toArray⟩)).setCell ⟨g, i * 2 + 1, none⟩ (.slice bq (u8V (pcB sz l i)).length cq)).heap.size := by have := hb2.size; simp; omega
      generalize (w2.setCell ⟨g, i * 2, none⟩ (.string ⟨nm.toArray⟩)).setCell ⟨g, i * 2 + 1, none⟩ (.slice bq (u8V (pcB sz l i)).length cq) = w3 at *
      refine ⟨?_, by simp [intOf]; omega⟩
      by_cases he : n2 = q
      · rw [if_pos he]
        exact ⟨i + 1, _, o', by omega, by simp, by rfl, fun h => by have := hz (by omega); omega, hb3, hC2, hs3⟩
      · rw [if_neg he]
        exact ⟨i + 1, _, o' + q, by omega, by simp, by rfl, hoff, hb3, hC2, hs3⟩
    · obtain rfl : i = ns.length := by omega
      have hnl : ¬ ((ns.length : Int) < (ns.length : Int)) := by omega
      go_wp2
      go_ret
      first | exact ⟨hb, rfl, vd, hC⟩ | exact ⟨by rw [hg]; exact hb, vd, by rw [hg]; rfl, by rw [hg]; exact hC⟩
set_option maxHeartbeats 4000000 in
set_option maxRecDepth 100000 in
theorem cutB_none (ns : List (List UInt8)) (sz : List Nat) (vN vS : Value) (w : World) (hN : Lies w vN (nameV ns)) (hS : Lies w vS (natV sz)) (hln : ns.length ≤ sz.length) (hsz : ∀ i, i < sz.length → sz.getD i 0 = 0) (hn : ns.length ≤ 1048576) :
    Calls Tryz.prog 26 #[vN, vS, .slice none 0 0] w fun r w' => Below w.heap.size w w' ∧ ∃ vd, r = .returned (.slice (some ⟨w.heap.size, 0, none⟩) ns.length ns.length) ∧ CB ns sz [] w.heap.size ns.length vd w' := by
  obtain ⟨pn, cn, rfl⟩ := hN.len
  obtain ⟨ps, cs, rfl⟩ := hS.len
  rw [nameV_length] at hN ⊢
  rw [natV_length] at hS ⊢
  have mk := make_blobsN ns.length hn w
  have h0 := CB.start ns sz [] w
  have b0 : Below w.heap.size w (w.alloc (.cells (madeCells #[.string ⟨#[]⟩, .slice none 0 0] (ns.length * 2)) 63)) := (Below.refl _ _).alloc (Nat.le_refl _) _
  go_enter Tryz.func26, Tryz.ntmps26
  go_wp2
  generalize w.alloc (.cells (madeCells #[.string ⟨#[]⟩, .slice none 0 0] (ns.length * 2)) 63) = w0 at *
  generalize hg : w.heap.size = g at *
  go_loopw [2, 8, 9, 15] (fun v2 _ _ vi wr => ∃ (i : Nat) (vd : Nat → Value), i ≤ ns.length ∧ vi = .int .i64 (i : Int) ∧ v2 = .slice none 0 0 ∧ Below g w wr ∧ CB ns sz [] g i vd wr ∧ g < wr.heap.size) (fun _ _ _ vi _ => ns.length - (intOf vi).toNat)
  case atStart => exact ⟨0, _, by omega, rfl, rfl, b0, h0, by have := h0.row.lt; omega⟩
  case round =>
    clear h0 b0
    obtain ⟨i, vd, hi, rfl, rfl, hb, hC, hgs⟩ := hrel
    by_cases hlt : i < ns.length
    · have hlt1 : (i : Int) < (ns.length : Int) := by omega
      have hlt2 : (i : Int) < (sz.length : Int) := by omega
      obtain ⟨gn, on, rfl, c1⟩ := hN.get (nameV_at hlt)
      obtain ⟨gs, os, rfl, c2⟩ := hS.get (natV_at (l := sz) (j := i) (by omega))
      have lt1 := cell_lt c1
      have lt2 := cell_lt c2
      rw [hsz i (by omega), show ((0 : Nat) : Int) = 0 from rfl] at c2
      replace c1 := (hb.cell (p := ⟨gn, on + i, none⟩) (by rw [← hg]; exact lt1)).trans c1
      replace c2 := (hb.cell (p := ⟨gs, os + i, none⟩) (by rw [← hg]; exact lt2)).trans c2
      have ep : pcB sz [] i = [] := by simp [pcB]
      have k1 := clone_any [] (.slice none 0 0) wr ⟨none, 0, rfl, Nat.le_refl _, fun j u hj => by simp [u8V] at hj⟩ (by simp)
      have hmore := fun w2 v' hb2 ho => hC.more (w2 := w2) (v' := v') hlt hgs hb2 ho
      rw [ep] at hmore
      clear hN hS hC
      unfold strV at hmore
      generalize ns.getD i [] = nm at c1 hmore
      go_wp2_with (first | (go_at_call 55; (with_reducible refine k1.mono ?_); rintro r w2 ⟨v', rfl, ho, hb2⟩; obtain ⟨bq, cq, rfl⟩ := (Lies.owned ho).len; obtain ⟨hC2, ⟨_, d1⟩, d2, ⟨_, d3⟩, d4⟩ := hmore w2 _ hb2 ho; have d5 := (hb2.cell (p := ⟨gs, os + i, none⟩) (by exact Nat.lt_of_lt_of_le (by rw [hg] at lt2; exact lt2) (Nat.le_of_lt hgs))).trans c2))
      have hb3 : Below g w ((w2.setCell ⟨g, i * 2, none⟩ (.string ⟨nm.toArray⟩)).setCell ⟨g, i * 2 + 1, none⟩ (.slice bq (u8V []).length cq)) := ((hb.trans (hb2.mono (Nat.le_of_lt hgs))).setCell (p := ⟨g, i * 2, none⟩) (Nat.le_refl _) _).setCell (p := ⟨g, i * 2 + 1, none⟩) (Nat.le_refl _) _
      have hs3 : g < ((w2.setCell ⟨g, i * 2, none⟩ (.string ⟨nm.toArray⟩)).setCell ⟨g, i * 2 + 1, none⟩ (.slice bq (u8V []).length cq)).heap.size := by have := hb2.size; simp; omega
      exact ⟨⟨i + 1, _, by omega, by simp, rfl, hb3, hC2, hs3⟩, by simp [intOf]; omega⟩
    · obtain rfl : i = ns.length := by omega
      have hnl : ¬ ((ns.length : Int) < (ns.length : Int)) := by omega
      go_wp2
      go_ret
      first | exact ⟨hb, rfl, vd, hC⟩ | exact ⟨by rw [hg]; exact hb, vd, by rw [hg]; rfl, by rw [hg]; exact hC⟩
end Go.Proofs.YtlghjjennhpjeaaGreatDoor

/-
  What package errors asks of types and values (package reflectlite): the same beside those that leave.
-/
namespace Go.Lf
open Go.Extern Go.Extern.Rtype

section
variable {P : Program} {α : Type}
theorem plain_cutType (s : String) : Plain P (cutType s) := by
  unfold cutType
  (repeat' (first | with_reducible (first | exact plain_pure _ | exact plain_stuck _ | exact plain_program | (refine plain_bind ?_ (fun _ => ?_))) | split))
theorem plain_panicString (s : String) : Plain P (panicString s : Sem α) := by
  unfold panicString
  (repeat' (with_reducible first | exact plain_goPanic _ | exact plain_program | (refine plain_bind ?_ (fun _ => ?_))))
theorem plain_ofHandle (h : Value) : Plain P (ofHandle h) := by
  unfold ofHandle
  (repeat' (first | with_reducible (first | exact plain_pure _ | exact plain_stuck _ | exact plain_program | (refine plain_bind ?_ (fun _ => ?_))) | split))
theorem plain_handle (t : TypeId) : Plain P (handle t) := by
  unfold handle
  (repeat' (with_reducible first | exact plain_pure _ | exact plain_program | (refine plain_bind ?_ (fun _ => ?_))))
theorem plain_noPack (s : String) (t : TypeId) : Plain P (noPack s t) := by
  unfold noPack
  (repeat' (first | with_reducible exact plain_pure _ | ((with_reducible refine plain_uns ?_); exact trivial) | with_reducible (first | exact plain_program | (refine plain_bind ?_ (fun _ => ?_)) | (refine plain_ite ?_ ?_))))
theorem plain_noPackHeld (s : String) (t : TypeId) : Plain P (noPackHeld s t) := by
  unfold noPackHeld
  (repeat' (first | with_reducible exact plain_pure _ | ((with_reducible refine plain_uns ?_); exact trivial) | with_reducible (first | exact plain_program | (refine plain_bind ?_ (fun _ => ?_)) | (refine plain_ite ?_ ?_))))
theorem plain_noPackNamed (s : String) (t : TypeId) : Plain P (noPackNamed s t) := by
  unfold noPackNamed
  (repeat' (first | with_reducible exact plain_pure _ | ((with_reducible refine plain_uns ?_); exact trivial) | with_reducible (first | exact plain_program | (refine plain_bind ?_ (fun _ => ?_)) | (refine plain_ite ?_ ?_))))
theorem plain_noPackMethods (s : String) (t : TypeId) : Plain P (noPackMethods s t) := by
  unfold noPackMethods
  (repeat' (first | with_reducible exact plain_pure _ | ((with_reducible refine plain_uns ?_); exact trivial) | with_reducible (first | exact plain_program | (refine plain_bind ?_ (fun _ => ?_)) | (refine plain_ite ?_ ?_))))
theorem plain_typeStr (t : TypeId) : Plain P (typeStr t) := by
  unfold typeStr
  (repeat' (first | with_reducible exact plain_pure _ | ((with_reducible refine plain_uns ?_); exact trivial) | with_reducible (first | exact plain_typeInfo _ | (refine plain_bind ?_ (fun _ => ?_)) | (refine plain_ite ?_ ?_))))
theorem plain_spelt (t : TypeId) : Plain P (spelt t) := by
  unfold spelt
  (repeat' (with_reducible first | exact plain_noPackNamed _ _ | exact plain_typeStr _ | (refine plain_bind ?_ (fun _ => ?_))))
theorem plain_underR (t : TypeId) : Plain P (under t) := by
  unfold under
  (repeat' (first | with_reducible (first | exact plain_pure _ | exact plain_typeInfo _ | (refine plain_bind ?_ (fun _ => ?_))) | split))
theorem plain_kind (t : TypeId) : Plain P (kind t) := by
  unfold kind
  (repeat' (first | with_reducible (first | exact plain_pure _ | exact plain_stuck _ | exact plain_underR _ | (refine plain_bind ?_ (fun _ => ?_))) | split))
theorem plain_hasName (t : TypeId) : Plain P (hasName t) := by
  unfold hasName
  (repeat' (first | with_reducible (first | exact plain_pure _ | exact plain_typeInfo _ | (refine plain_bind ?_ (fun _ => ?_))) | split))
theorem plain_elemQ (t : TypeId) : Plain P (elem? t) := by
  unfold elem?
  (repeat' (first | with_reducible (first | exact plain_pure _ | exact plain_underR _ | (refine plain_bind ?_ (fun _ => ?_))) | split))
theorem plain_implements (t u : TypeId) : Plain P (implements t u) := by
  unfold implements
  (repeat' (first | with_reducible (first | exact plain_pure _ | exact plain_noPackMethods _ _ | exact plain_underR _ | exact plain_typeInfo _ | (refine plain_bind ?_ (fun _ => ?_))) | split))
theorem plain_directly (t u : TypeId) : Plain P (directlyAssignable t u) := by
  unfold directlyAssignable
  (repeat' (first | with_reducible (first | exact plain_pure _ | exact plain_hasName _ | exact plain_underR _ | (refine plain_bind ?_ (fun _ => ?_)) | (refine plain_ite ?_ ?_)) | split))
theorem plain_toType (t : TypeId) : Plain P (ReflectliteType.toType t) := by
  unfold ReflectliteType.toType
  (repeat' (with_reducible first | exact plain_pure _ | exact plain_cutType _ | exact plain_handle _ | (refine plain_bind ?_ (fun _ => ?_))))
theorem plain_ofRtype (v : Value) : Plain P (ReflectliteType.ofRtype v) := by
  unfold ReflectliteType.ofRtype
  cases v <;> first | exact plain_stuck _ | skip
  rename_i a
  rcases a with ⟨_ | ⟨h, _ | ⟨b, l⟩⟩⟩
  case cons.nil => exact plain_bind (plain_ofHandle h) fun _ => plain_bind (plain_noPack _ _) fun _ => plain_pure _
  all_goals exact plain_stuck _
theorem plain_typeOf (vals : Array Value) : Plain P (ReflectliteType.typeOf vals) := by
  unfold ReflectliteType.typeOf
  rcases vals with ⟨_ | ⟨a, _ | ⟨b, l⟩⟩⟩
  case cons.nil => cases a <;> first | exact plain_stuck _ | exact plain_pure _ | exact plain_toType _
  all_goals exact plain_stuck _
theorem plain_methodT {f : TypeId → Sem Value} (h : ∀ t, Plain P (f t)) (vals : Array Value) : Plain P (ReflectliteType.method f vals) := by
  unfold ReflectliteType.method
  rcases vals with ⟨_ | ⟨a, _ | ⟨b, l⟩⟩⟩
  case cons.nil => exact plain_bind (plain_ofRtype a) fun _ => h _
  all_goals exact plain_stuck _
theorem plain_elemT (t : TypeId) : Plain P (ReflectliteType.elem t) := by
  unfold ReflectliteType.elem
  (repeat' (first | with_reducible (first | exact plain_elemQ _ | exact plain_toType _ | exact plain_spelt _ | exact plain_panicString _ | (refine plain_bind ?_ (fun _ => ?_))) | split))
theorem plain_relation {s : String} {f : TypeId → TypeId → Sem Bool} (h : ∀ t u, Plain P (f t u)) (vals : Array Value) : Plain P (ReflectliteType.relation s f vals) := by
  unfold ReflectliteType.relation
  rcases vals with ⟨_ | ⟨a, _ | ⟨b, _ | ⟨c, l⟩⟩⟩⟩
  case cons.cons.nil => cases b <;> first | exact plain_stuck _ | exact plain_panicString _ | exact plain_bind (plain_ofRtype _) fun _ => plain_bind (plain_ofRtype _) fun _ => plain_bind (h _ _) fun _ => plain_pure _
  all_goals exact plain_stuck _
theorem plain_implements_ (t u : TypeId) : Plain P (ReflectliteType.implements_ t u) := by
  unfold ReflectliteType.implements_
  (repeat' (with_reducible first | exact plain_kind _ | exact plain_panicString _ | exact plain_noPackMethods _ _ | exact plain_noPack _ _ | exact plain_implements _ _ | (refine plain_bind ?_ (fun _ => ?_)) | (refine plain_ite ?_ ?_)))
theorem plain_assignableTo (t u : TypeId) : Plain P (ReflectliteType.assignableTo t u) := by
  unfold ReflectliteType.assignableTo
  (repeat' (with_reducible first | exact plain_pure _ | exact plain_noPackMethods _ _ | exact plain_directly _ _ | exact plain_implements _ _ | (refine plain_bind ?_ (fun _ => ?_)) | (refine plain_ite ?_ ?_)))
theorem plain_abiMethod {f : TypeId → Sem Value} (h : ∀ t, Plain P (f t)) (vals : Array Value) : Plain P (ReflectliteType.abiMethod f vals) := by
  unfold ReflectliteType.abiMethod
  rcases vals with ⟨_ | ⟨a, _ | ⟨b, l⟩⟩⟩
  case cons.nil => exact plain_bind (plain_ofHandle a) fun _ => plain_bind (plain_noPack _ _) fun _ => h _
  all_goals exact plain_stuck _
theorem plain_mkV (t : TypeId) (a : Addr) (n : Nat) : Plain P (ReflectliteValue.mk t a n) := by
  unfold ReflectliteValue.mk
  (repeat' (with_reducible first | exact plain_pure _ | exact plain_handle _ | exact plain_kind _ | (refine plain_bind ?_ (fun _ => ?_))))
theorem plain_unpack (v : Value) : Plain P (ReflectliteValue.unpack v) := by
  unfold ReflectliteValue.unpack
  (repeat' (first | with_reducible (first | exact plain_pure _ | exact plain_stuck _ | exact plain_mkV _ _ _ | exact plain_newVar _ _ | (refine plain_bind ?_ (fun _ => ?_))) | split))
theorem plain_valueError (s : String) (k : Nat) : Plain P (ReflectliteValue.valueError s k : Sem α) := by
  unfold ReflectliteValue.valueError
  (repeat' (with_reducible first | exact plain_goPanic _ | exact plain_cutType _ | exact plain_elemOf _ | exact plain_newVar _ _ | (refine plain_bind ?_ (fun _ => ?_))))
theorem plain_partsAny (v : Value) : Plain P (ReflectliteValue.partsAny v) := by
  unfold ReflectliteValue.partsAny
  cases v <;> first | exact plain_stuck _ | skip
  rename_i a
  rcases a with ⟨_ | ⟨x, _ | ⟨y, _ | ⟨z, _ | ⟨u, l⟩⟩⟩⟩⟩
  case cons.cons.cons.nil =>
    cases z <;> first | exact plain_stuck _ | skip
    rename_i k n
    cases k <;> first | exact plain_stuck _ | skip
    rcases n with (_ | m) | m
    · exact plain_pure _
    · cases y <;> first | exact plain_stuck _ | skip
      rename_i q
      cases q with
      | none => exact plain_stuck _
      | some ad => exact plain_bind (plain_ofHandle x) fun _ => plain_pure _
    · cases y <;> first | exact plain_stuck _ | skip
      rename_i q
      cases q with
      | none => exact plain_stuck _
      | some ad => exact plain_bind (plain_ofHandle x) fun _ => plain_pure _
  all_goals exact plain_stuck _
theorem plain_parts (v : Value) : Plain P (ReflectliteValue.parts v) := by
  unfold ReflectliteValue.parts
  (repeat' (first | with_reducible (first | exact plain_pure _ | exact plain_partsAny _ | exact plain_noPack _ _ | (refine plain_bind ?_ (fun _ => ?_))) | split))
theorem plain_methodV {z : Sem Value} {f : TypeId → Addr → Nat → Nat → Sem Value} (hz : Plain P z) (h : ∀ t a n m, Plain P (f t a n m)) (vals : Array Value) : Plain P (ReflectliteValue.method z f vals) := by
  unfold ReflectliteValue.method
  rcases vals with ⟨_ | ⟨a, _ | ⟨b, l⟩⟩⟩
  case cons.nil =>
    refine plain_bind (plain_parts a) fun r => ?_
    cases r with
    | none => exact hz
    | some x => exact h _ _ _ _
  all_goals exact plain_stuck _
theorem plain_methodAny {z : Sem Value} {f : TypeId → Addr → Nat → Nat → Sem Value} (hz : Plain P z) (h : ∀ t a n m, Plain P (f t a n m)) (vals : Array Value) : Plain P (ReflectliteValue.methodAny z f vals) := by
  unfold ReflectliteValue.methodAny
  rcases vals with ⟨_ | ⟨a, _ | ⟨b, l⟩⟩⟩
  case cons.nil =>
    refine plain_bind (plain_partsAny a) fun r => ?_
    cases r with
    | none => exact hz
    | some x => exact h _ _ _ _
  all_goals exact plain_stuck _
theorem plain_isNil (t : TypeId) (a : Addr) (n k : Nat) : Plain P (ReflectliteValue.isNil t a n k) := by
  unfold ReflectliteValue.isNil
  (repeat' (first | with_reducible (first | exact plain_pure _ | exact plain_valueError _ _ | exact plain_loadVar _ _ | (refine plain_bind ?_ (fun _ => ?_)) | (refine plain_ite ?_ ?_)) | split))
theorem plain_elemV (t : TypeId) (a : Addr) (n k : Nat) : Plain P (ReflectliteValue.elem t a n k) := by
  unfold ReflectliteValue.elem
  (repeat' (first | with_reducible (first | exact plain_pure _ | exact plain_valueError _ _ | exact plain_loadVar _ _ | exact plain_elemQ _ | exact plain_unpack _ | exact plain_mkV _ _ _ | (refine plain_bind ?_ (fun _ => ?_)) | (refine plain_ite ?_ ?_)) | split))
theorem plain_setV (vals : Array Value) : Plain P (ReflectliteValue.set vals) := by
  unfold ReflectliteValue.set
  rcases vals with ⟨_ | ⟨a, _ | ⟨b, _ | ⟨c, l⟩⟩⟩⟩
  case cons.cons.nil =>
    refine plain_bind (plain_parts a) fun p => plain_bind (plain_parts b) fun q => ?_
    (repeat' (first | with_reducible exact plain_pure _ | ((with_reducible refine plain_uns ?_); exact trivial) | with_reducible (first | exact plain_loadVar _ _ | exact plain_directly _ _ | exact plain_storeVar _ _ _ | exact plain_implements _ _ | exact plain_kind _ | exact plain_spelt _ | exact plain_panicString _ | (refine plain_bind ?_ (fun _ => ?_)) | (refine plain_ite ?_ ?_)) | split))
  all_goals exact plain_stuck _
end
end Go.Lf

/-
  The functions that the program's Parse comes to: their code is tame.
-/
namespace Go.Proofs.YtlghjjennhpjeaaGreatDoor
open Go.Lf Go.Extern

/-- The slots of readNumbers that hold its inner function. -/
def closP (f : FuncId) : Clos := if f == 132 then [5, 9, 17, 19, 21, 23, 35, 37, 67, 85].map fun j => (j, 140, 1) else []
def tameQ : List FuncId := [50, 9, 19, 20, 21, 11, 41, 42, 43, 44, 116, 135, 134, 24, 27, 66, 68, 138, 49, 59, 88, 89, 90, 118, 119, 120, 121, 122, 130, 131, 132, 140, 133, 136, 139, 141, 142, 143, 144, 145, 146, 147, 148, 149, 150, 151, 152, 153, 154, 155, 156, 157, 176, 178]
def extQ : List FuncId := [67, 56, 57, 58, 85, 86, 171, 172, 180, 183, 184, 185, 186]
def tameP (f : FuncId) : Bool := tameQ.contains f || extQ.contains f

noncomputable def goodOneP (f : FuncId) : Bool := match Tryz.prog.funcs[f]? with
  | none => false
  | some fn => !(fn.name == "runtime.NumGoroutine") && match fn.body with
    | none => false
    | some c => okCodeS Tryz.prog tameP (closP f) c && (closP f).all fun x => decide (arity Tryz.prog f ≤ x.1)
theorem goodQ : tameQ.all goodOneP = true := by kernel_rfl
attribute [local irreducible] Plain
theorem ext_of {P : Program} {f : FuncId} {fn : Func} (e : Array Value → Sem Value) (h1 : P.funcs[f]? = some fn) (h2 : (fn.name == "runtime.NumGoroutine") = false) (h3 : fn.body = none) (h4 : Extern.findNext fn = none) (h5 : Extern.find fn = some e) (h6 : ∀ xs, Plain P (e xs)) : GoodExt P f :=
  ⟨fn, h1, h2, h3, h4, fun e' he xs => by rw [h5] at he; cases he; exact Okay.of (h6 xs)⟩
theorem ext_no {P : Program} {f : FuncId} {fn : Func} (h1 : P.funcs[f]? = some fn) (h2 : (fn.name == "runtime.NumGoroutine") = false) (h3 : fn.body = none) (h4 : Extern.findNext fn = none) (h5 : Extern.find fn = none) : GoodExt P f :=
  ⟨fn, h1, h2, h3, h4, fun e' he xs => by rw [h5] at he; cases he⟩
theorem goodX : ∀ f ∈ extQ, GoodExt Tryz.prog f := by
  intro f hf
  simp only [extQ, List.mem_cons, List.not_mem_nil, or_false] at hf
  rcases hf with rfl | rfl | rfl | rfl | rfl | rfl | rfl | rfl | rfl | rfl | rfl | rfl | rfl
  · exact ext_of ReflectliteType.typeOf Tryz.func67 (by kernel_rfl) (by kernel_rfl) (by kernel_rfl) (by kernel_rfl) (plain_typeOf)
  · exact ext_of (fun args => ReflectliteValue.unpack (args.getD 0 (.tuple #[]))) Tryz.func56 (by kernel_rfl) (by kernel_rfl) (by kernel_rfl) (by kernel_rfl) (fun _ => plain_unpack _)
  · exact ext_of (ReflectliteValue.methodAny (ReflectliteValue.valueError "reflectlite.Value.Type" 0) fun t _ _ _ => ReflectliteType.toType t) Tryz.func57 (by kernel_rfl) (by kernel_rfl) (by kernel_rfl) (by kernel_rfl) (plain_methodAny (plain_valueError _ _) fun _ _ _ _ => plain_toType _)
  · exact ext_of (ReflectliteValue.method (ReflectliteValue.valueError "reflectlite.Value.IsNil" 0) ReflectliteValue.isNil) Tryz.func58 (by kernel_rfl) (by kernel_rfl) (by kernel_rfl) (by kernel_rfl) (plain_methodV (plain_valueError _ _) plain_isNil)
  · exact ext_of (ReflectliteValue.method (ReflectliteValue.valueError "reflectlite.Value.Elem" 0) ReflectliteValue.elem) Tryz.func85 (by kernel_rfl) (by kernel_rfl) (by kernel_rfl) (by kernel_rfl) (plain_methodV (plain_valueError _ _) plain_elemV)
  · exact ext_of ReflectliteValue.set Tryz.func86 (by kernel_rfl) (by kernel_rfl) (by kernel_rfl) (by kernel_rfl) (plain_setV)
  · exact ext_no Tryz.func171 (by kernel_rfl) (by kernel_rfl) (by kernel_rfl) (by kernel_rfl)
  · exact ext_of (ReflectliteType.abiMethod fun t => do pure (.int .u8 (← Rtype.kind t))) Tryz.func172 (by kernel_rfl) (by kernel_rfl) (by kernel_rfl) (by kernel_rfl) (plain_abiMethod fun _ => plain_bind (plain_kind _) fun _ => plain_pure _)
  · exact ext_of (ReflectliteValue.method (pure (.int .u8 0)) fun _ _ _ k => pure (.int .u8 (Int.ofNat k))) Tryz.func180 (by kernel_rfl) (by kernel_rfl) (by kernel_rfl) (by kernel_rfl) (plain_methodV (plain_pure _) fun _ _ _ _ => plain_pure _)
  · exact ext_of (ReflectliteType.relation "AssignableTo" ReflectliteType.assignableTo) Tryz.func183 (by kernel_rfl) (by kernel_rfl) (by kernel_rfl) (by kernel_rfl) (plain_relation plain_assignableTo)
  · exact ext_of (ReflectliteType.method fun t => do Rtype.noPackHeld "Comparable" t; pure (.bool (← typeInfo t).comparable)) Tryz.func184 (by kernel_rfl) (by kernel_rfl) (by kernel_rfl) (by kernel_rfl) (plain_methodT fun _ => plain_bind (plain_noPackHeld _ _) fun _ => plain_bind (plain_typeInfo _) fun _ => plain_pure _)
  · exact ext_of (ReflectliteType.method ReflectliteType.elem) Tryz.func185 (by kernel_rfl) (by kernel_rfl) (by kernel_rfl) (by kernel_rfl) (plain_methodT plain_elemT)
  · exact ext_of (ReflectliteType.relation "Implements" ReflectliteType.implements_) Tryz.func186 (by kernel_rfl) (by kernel_rfl) (by kernel_rfl) (by kernel_rfl) (plain_relation plain_implements_)
theorem goodP : GoodF Tryz.prog tameP := by
  intro f hf
  rw [tameP, Bool.or_eq_true] at hf
  rcases hf with hf | hf
  · left
    have h := List.all_eq_true.1 goodQ f (by simpa using hf)
    unfold goodOneP at h
    split at h
    · cases h
    · rename_i fn hfn
      rw [Bool.and_eq_true] at h
      obtain ⟨h1, h2⟩ := h
      split at h2
      · cases h2
      · rename_i c hc
        rw [Bool.and_eq_true] at h2
        exact ⟨fn, c, closP f, hfn, by simpa using h1, hc, h2.1, fun x hx => by simpa using List.all_eq_true.1 h2.2 x hx⟩
  · right
    exact goodX f (by simpa using hf)
theorem bodyP {f : FuncId} (h : tameQ.contains f = true) (hb : hasBody Tryz.prog f = true) : GoodBody Tryz.prog tameP f := goodP.body (by rw [tameP, h]; rfl) hb
end Go.Proofs.YtlghjjennhpjeaaGreatDoor

/-
  The functions that Decode comes to, and those of before: their code is tame.
-/
namespace Go.Lf
open Go.Extern
attribute [local irreducible] Plain
theorem plain_makeNoZero {P : Program} (ps rs : Array TypeId) (vals : Array Value) : Plain P (BytealgMakeNoZero.makeNoZero ps rs vals) := by
  unfold BytealgMakeNoZero.makeNoZero
  rcases vals with ⟨_ | ⟨a, _ | ⟨b, l⟩⟩⟩
  case cons.nil =>
    cases a with
    | int k n =>
      cases k
      case i64 =>
        cases h : rs[0]? with
        | none => exact plain_stuck _
        | some t =>
          refine plain_bind (plain_underlying _) fun d => ?_
          cases d <;> (repeat' (first | with_reducible assumption | with_reducible exact plain_pure _ | with_reducible exact plain_pure' _ | with_reducible exact plain_stuck _ | ((with_reducible refine plain_uns ?_); exact trivial) | with_reducible exact plain_goPanic _ | with_reducible exact plain_load _ | with_reducible exact plain_store _ _ | with_reducible exact plain_frozen _ | with_reducible exact plain_choose _ | with_reducible exact plain_program | with_reducible exact plain_room _ | with_reducible exact plain_new trivial | with_reducible exact plain_runtimePanic _ | with_reducible exact plain_newRow _ _ | ((with_reducible refine plain_getObj ?_ ?_); (focus (exact ghost_both (fun _ _ _ => rfl) (fun _ _ => rfl))); (intro _)) | with_reducible (refine plain_bind ?_ (fun _ => ?_)) | with_reducible (refine plain_map ?_) | with_reducible (refine plain_ite ?_ ?_) | split | (dsimp only)))
      all_goals (cases h : rs[0]? <;> exact plain_stuck _)
    | _ => cases h : rs[0]? <;> exact plain_stuck _
  all_goals (cases h : rs[0]? <;> exact plain_stuck _)
end Go.Lf
namespace Go.Proofs.YtlghjjennhpjeaaGreatDoor
open Go.Lf Go.Extern

def tameD : List FuncId := [22, 23, 48, 26, 45, 46, 47, 69, 70, 91, 92, 71, 72, 51, 54, 55, 6, 12, 28, 29, 30, 31, 33, 34, 60, 61, 13, 35, 14, 15, 37, 17, 8]
def extD : List FuncId := [73]
def tameA (f : FuncId) : Bool := tameQ.contains f || tameL.contains f || tameD.contains f || extQ.contains f || extD.contains f
noncomputable def goodOneA (f : FuncId) : Bool := match Tryz.prog.funcs[f]? with
  | none => false
  | some fn => !(fn.name == "runtime.NumGoroutine") && match fn.body with
    | none => false
    | some c => okCodeS Tryz.prog tameA (closP f) c && (closP f).all fun x => decide (arity Tryz.prog f ≤ x.1)
theorem goodAll : (tameQ ++ tameL ++ tameD).all goodOneA = true := by kernel_rfl
theorem goodM : GoodExt Tryz.prog 73 :=
  ext_of (BytealgMakeNoZero.makeNoZero Tryz.f73.params Tryz.f73.resultTypes) Tryz.func73 (by kernel_rfl) (by kernel_rfl) (by kernel_rfl) (by kernel_rfl) (plain_makeNoZero _ _)
theorem goodA : GoodF Tryz.prog tameA := by
  intro f hf
  have hf' : (tameQ ++ tameL ++ tameD).contains f = true ∨ extQ.contains f = true ∨ extD.contains f = true := by
    simp only [tameA, Bool.or_eq_true] at hf
    simp only [List.contains_eq_mem, List.mem_append, decide_eq_true_eq] at hf ⊢
    rcases hf with (((h | h) | h) | h) | h
    · exact .inl (.inl (.inl h))
    · exact .inl (.inl (.inr h))
    · exact .inl (.inr h)
    · exact .inr (.inl h)
    · exact .inr (.inr h)
  rcases hf' with hf | hf | hf
  · left
    have h := List.all_eq_true.1 goodAll f (by simpa using hf)
    unfold goodOneA at h
    split at h
    · cases h
    · rename_i fn hfn
      rw [Bool.and_eq_true] at h
      obtain ⟨h1, h2⟩ := h
      split at h2
      · cases h2
      · rename_i c hc
        rw [Bool.and_eq_true] at h2
        exact ⟨fn, c, closP f, hfn, by simpa using h1, hc, h2.1, fun x hx => by simpa using List.all_eq_true.1 h2.2 x hx⟩
  · right
    exact goodX f (by simpa using hf)
  · right
    obtain rfl : f = 73 := by simpa [extD] using hf
    exact goodM
end Go.Proofs.YtlghjjennhpjeaaGreatDoor

/-
  Beside those that leave: the rest of a function, by its lone law, up to its return.
-/
namespace Go.Lf
open Go.Conc

section
variable {P : Program} {F : FuncId → Bool} {X : Nat → Prop} {Y : Nat → Option Obj} {D : Nat → World → Array Event → Prop} {Stop : Goroutine → World → Prop} {f : FuncId} {cs : List Frame} {T : Array Value} {v : World}

theorem reaI_tail (hF : GoodF P F) (hD : Dok X D) {c : Code} (hc : okCode P F c = true) {fn : Func} (hf : P.funcs[f]? = some fn) {R : Value → World → Prop} {c0 : Frame}
    (h : ∀ τ d, c.wp P (bodyPost P fn fun e v' => ∃ y, e = .returned y ∧ R y v') ⟨T, []⟩ { v with tape := τ, drawn := d })
    (hK : ∀ y v', R y v' → ∀ w', SimT X Y w' v' → GoesI P D Stop (G (c0.finish y) cs) w') : ReaI P X Y D Stop f (c0 :: cs) [.code c] ⟨T, []⟩ v := by
  intro w hs
  refine segC (f := (base f).at ⟨T, []⟩ [.code c]) (Q := fun fr v' => ∃ y, R y v' ∧ fr.defers = [] ∧ fr.kind = .normal ∧ ∃ fn, P.funcs[fr.fn]? = some fn ∧ (results fn fr.tmps).run P v' = .ok y v') hF hD ⟨⟨fn, hf⟩, rfl, rfl, rfl, [], fun x hx => by simp [Frame.at] at hx; subst hx; exact hc, InvS.nil⟩ rfl (fun τ d' => ?_) hs (fun fz v' w' hT hzm hQ hs' => ?_)
  · obtain ⟨e, a', v', hq, harr⟩ := h τ d' (base f) [] [f0]
    cases e with
    | normal =>
      obtain ⟨hd, y, hr, z, hz, hR⟩ := hq
      cases hz
      obtain ⟨n, hn⟩ : Steps P (lone ((base f).at ⟨T, []⟩ [.code c]) [f0] { v with tape := τ, drawn := d' }) (lone { (base f).at a' [] with mode := .returning } [f0] v') := Steps.trans harr (.one step_end)
      exact ⟨n, _, v', hn, rfl, y, hR, hd, rfl, fn, hf, hr⟩
    | ret =>
      obtain ⟨hd, y, hr, z, hz, hR⟩ := hq
      cases hz
      obtain ⟨todo, hst⟩ := harr
      obtain ⟨n, hn⟩ : Steps P (lone ((base f).at ⟨T, []⟩ [.code c]) [f0] { v with tape := τ, drawn := d' }) (lone { (base f).at a' todo with mode := .returning } [f0] v') := hst
      exact ⟨n, _, v', hn, rfl, y, hR, hd, rfl, fn, hf, hr⟩
    | panic chain =>
      obtain ⟨_, y, hy, _⟩ := hq
      cases hy
    | exit id => exact hq.elim
    | goto l => exact hq.elim
    | outgrown =>
      obtain ⟨y, hy, _⟩ := hq
      cases hy
  · obtain ⟨y, hR, hd, hk, fn, hf, hr⟩ := hQ
    refine .next rfl fun d => ?_
    obtain ⟨τ0, d0, hs0⟩ := hs'
    have hsim : Sim X Y (w'.at d) { v' with tape := fun p => w'.tape (d + (p - v'.drawn)) } := SimT.re ⟨τ0, d0, hs0⟩ d v'.drawn _ fun i q => by
      show w'.tape (d + i) q = w'.tape (d + (v'.drawn + i - v'.drawn)) q
      rw [Nat.add_sub_cancel_left]
    obtain ⟨_, _, ht3⟩ := tape_run (results fn fz.tmps) v' #[] y v' ((results fn fz.tmps).events P v' #[]) (plain_results fn fz.tmps) hs0.nv (by rw [Sem.runT_eq, hr])
    have hr2 := ht3 (fun p => w'.tape (d + (p - v'.drawn))) (fun p h1 h2 => absurd h2 (by omega))
    obtain ⟨w3, h1, h2, h3, h4⟩ := sim_run (results fn fz.tmps) (w'.at d) _ #[] y _ _ (plain_results fn fz.tmps) hsim hr2
    refine ⟨G (c0.finish y) cs, w3, seen P fz.fn ((results fn fz.tmps).events P v' #[]), ?_, hD _ _ _ (Nat.le_of_eq (hsim.size.trans h2.size.symm)) (fun e he => (h4 e (mem_seen he)).resolve_left (by simp)), hK y v' hR w3 ⟨_, _, h2⟩⟩
    obtain ⟨fnx, tmps, todo, defers, mode, kind, round⟩ := fz
    dsimp only at hzm hd hk hf hr h1 h4
    subst hzm hd hk
    show stepG P true _ (w'.at d) = _
    simp only [G, stepG, unwind, hf, h1, doReturn, GStep.after]
    rfl
end
end Go.Lf

/-
  The package-level variables, and Parse by its contract.
-/
namespace Go.Proofs.YtlghjjennhpjeaaGreatDoor
open Go.RowKit Go.Deep Go.Lf Go.Conc Go.Hp

theorem bel_sub {w w' : World} (h : Bel w.heap.size w w') : Sub w w' := ⟨h.size', fun _ _ _ _ hb => (h.blk (Array.getElem?_eq_some_iff.1 hb).1).trans hb⟩
theorem kept_sub {w w' : World} (h : Kept w w') : Sub w w' := ⟨h.size, fun b _ _ _ hb => (h.block b (Array.getElem?_eq_some_iff.1 hb).1).trans hb⟩
theorem Sub.trans {a b c : World} (h : Sub a b) (h' : Sub b c) : Sub a c := ⟨Nat.le_trans h.1 h'.1, fun x y t fr hx => h'.2 x y t fr (h.2 x y t fr hx)⟩
/-- The package-level variables. -/
structure Gl (a : Addr) (w : World) : Prop where
  tab : Tab w
  pow : Pow w
  big : 5 ≤ w.heap.size
  early : Early w a
  errT : ErrT w
theorem Gl.sub {a : Addr} {w w' : World} (h : Gl a w) (hs : Sub w w') : Gl a w' := by
  refine ⟨hs.tab h.tab, ?_, Nat.le_trans h.big hs.1, hs.cell h.early, hs.cell h.errT⟩
  have hp := h.pow
  unfold Pow Lib.TabIs World.var? at hp ⊢
  cases hg : Tryz.prog.globalNamed "internal/strconv.uint64pow10" with
  | none => rw [hg] at hp; cases hp
  | some g =>
    rw [hg] at hp
    simp only [Option.bind_some] at hp ⊢
    split at hp
    · rename_i cs t fr hc
      rw [hs.2 _ _ _ _ hc]
      exact hp
    · cases hp

section
variable {w : World}
/-- Parse of bytes that are right, by its contract. -/
theorem parse_good {a : Addr} {g cap : Nat} {l : List UInt8} {s : Shd} (hG : Gl a w) (hb : Byt w g 0 l) (hcap : l.length ≤ cap) (hl : l.length ≤ 4611686018427387904) (hp : parseE l = .ok s) :
    Calls Tryz.prog 9 #[.slice (some ⟨g, 0, none⟩) l.length cap] w fun q w' => Below w.heap.size w w' ∧ ∃ vN vS vC, q = .returned (.tuple #[.agg #[.int .i64 (s.k : Int), .int .i64 (s.n : Int), .int .i64 (s.i : Int), .int .i64 (s.c : Int), vN, vS, vC], .int .i64 0, .int .i64 0]) ∧
      w'.ownsRow w.heap.size 9 1 vN s.names.length (strsV s.names) ∧ w'.ownsRow w.heap.size 3 1 vS s.sizes.length (natV s.sizes) ∧ w'.ownsRow w.heap.size 5 1 vC s.col.length (u8V s.col) := by
  refine (parseP_any l _ w (.inr ⟨⟨g, 0, none⟩, cap, rfl, hcap, fun _ => id, fun j hj => by rw [add_off]; exact hb j hj⟩) hl hG.tab hG.pow hG.big a hG.early hG.errT).mono ?_
  rintro q w' ⟨h1, h2⟩
  rw [hp] at h2
  exact ⟨h1, h2⟩
theorem parse_bad {a : Addr} {ad : Addr} {cap : Nat} {l : List UInt8} {e : Nat × Nat} (hG : Gl a w) (hb : ∀ j, j < l.length → w.cell? (ad.add j) = some (.int .u8 (bAt l j : Int))) (hcap : l.length ≤ cap) (hl : l.length ≤ 4611686018427387904) (hp : parseE l = .error e) :
    Calls Tryz.prog 9 #[.slice (some ad) l.length cap] w fun q w' => Below w.heap.size w w' ∧ q = .returned (.tuple #[zeroShard, .int .i64 (e.1 : Int), .int .i64 (e.2 : Int)]) := by
  refine (parseP_any l _ w (.inr ⟨ad, cap, rfl, hcap, fun _ => id, hb⟩) hl hG.tab hG.pow hG.big a hG.early hG.errT).mono ?_
  rintro q w' ⟨h1, h2⟩
  rw [hp] at h2
  exact ⟨h1, h2⟩
theorem owns_down {w : World} {B B' e z n : Nat} {v : Value} {xs : List Value} (h : w.ownsRow B e z v n xs) (hB : B' ≤ B) : w.ownsRow B' e z v n xs := by
  refine ⟨h.1, ?_⟩
  rcases h.2 with x | ⟨g, cap, cur, h1, h2, h3⟩
  · exact .inl x
  · exact .inr ⟨g, cap, cur, h1, Nat.le_trans hB h2, h3⟩
end
end Go.Proofs.YtlghjjennhpjeaaGreatDoor

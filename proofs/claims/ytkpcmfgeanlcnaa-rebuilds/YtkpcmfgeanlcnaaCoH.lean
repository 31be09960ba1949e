/-
  In company: a column is copied.
-/
import Derived.Test.YtkpcmfgeanlcnaaCoW
import Derived.Laws.CopyRow
namespace Go.Proofs.Ytkpcmfgeanlcnaa
open Go.Conc Go.RowKit Go.Gh
open Go.ConcR (Payload)

def CopyOk (w : World) (N L : Nat) (bs : Option Addr) (co bo : Nat) (ys : List Nat) : Prop :=
  (Builtin.copy_ #[41, 41] 3 #[.slice (some ⟨N, 0, none⟩) L L, .slice bs L co]).run Try.prog w = .ok (goInt L) (w.setRow N (bytesA ys)) ∧
    ∀ e ∈ (Builtin.copy_ #[41, 41] 3 #[.slice (some ⟨N, 0, none⟩) L L, .slice bs L co]).events Try.prog w #[], ∃ b wr, e = ⟨.cell b, wr, false⟩ ∧ (b.block = N ∨ (b.block = bo ∧ wr = false))

theorem bytesA_one (ys : List Nat) : ∀ v ∈ (bytesA ys).toList, v.oneCell' = true := by
  intro v hv
  obtain ⟨i, hi⟩ := Array.mem_iff_getElem?.1 (Array.mem_toList_iff.1 hv)
  rw [bytesA_get] at hi
  obtain ⟨y, _, rfl⟩ := Option.map_eq_some_iff.1 hi
  rfl
theorem copy_ok (w : World) (N L : Nat) (bs : Option Addr) (co bo oo : Nat) (ys : List Nat) (hs : 0 < L → bs = some ⟨bo, oo, none⟩) (hl : ys.length = L) (hc : ∀ i y, ys[i]? = some y → w.cell? ⟨bo, oo + i, none⟩ = some (.int .u8 ((y : Nat) : Int)))
    {cur : Array Value} (hcur : cur.size = L) (hg : w.heap[N]? = some (.cells cur 5)) : CopyOk w N L bs co bo ys := by
  have hu := Try.underlying41
  obtain ⟨i0, hi, _, hz1, _⟩ := info_parts info_u8
  have hsz : (Try.prog.info? 5).map (·.size) = some 1 := by rw [hi]; simp [hz1]
  have hsize : (bytesA ys).size = L := by simp [bytesA, hl]
  rcases Nat.eq_zero_or_pos L with h0 | h0
  · subst h0
    have hn : ys = [] := List.eq_nil_of_length_eq_zero hl
    subst hn
    have e0 : cur = bytesA [] := by rw [Array.eq_empty_of_size_eq_zero hcur]; rfl
    rw [e0] at hg
    refine ⟨?_, ?_⟩
    · rw [setRow_self w N _ _ _ hg]
      cases bs <;> simp [Builtin.copy_, run_underlying hu, Builtin.lenOf, Builtin.firstCells, sizeOf, typeInfo, hi, loadCells, loadCellsFrom, storeCells]
    · intro e he
      cases bs <;> simp [Builtin.copy_, run_underlying hu, Builtin.lenOf, Builtin.firstCells, sizeOf, typeInfo, hi, loadCells, loadCellsFrom, storeCells, go_sem] at he
  · obtain rfl := hs h0
    have hsrc : ∀ j v, (bytesA ys).toList[j]? = some v → w.cell? ((⟨bo, oo, none⟩ : Addr).add j) = some v := by
      intro j v hj
      rw [Array.getElem?_toList, bytesA_get] at hj
      obtain ⟨y, hy, rfl⟩ := Option.map_eq_some_iff.1 hj
      rw [add_plain]
      exact hc j y hy
    refine ⟨?_, ?_⟩
    · have := run_copy_row Try.prog w 41 41 3 5 N 0 L L ⟨bo, oo, none⟩ L co cur 5 (bytesA ys).toList hu hsz hg (by simp [hsize]) hsrc (by simp [hsize, hcur]) (bytesA_one ys)
      have h1 : List.drop L cur.toList = [] := List.drop_eq_nil_of_le (by simp [hcur])
      simpa [hsize, h1] using this
    · intro e he
      have hlr := run_loadCells_list (P := Try.prog) w ⟨bo, oo, none⟩ (bytesA ys).toList hsrc
      have hln : (bytesA ys).toList.length = L := by simp [hsize]
      rw [hln] at hlr
      simp [Builtin.copy_, run_underlying hu, Builtin.lenOf, Builtin.firstCells, sizeOf, typeInfo, hi, hz1, go_sem] at he
      rw [show (loadCellsFrom ⟨bo, oo, none⟩ 0 L #[]).run Try.prog w = .ok (bytesA ys) w from by simpa [loadCells] using hlr] at he
      simp only [Result.evThen_ok] at he
      rcases ev_storeCells N 5 (bytesA ys).toList 0 cur w _ hg (by simp [hsize, hcur]) (bytesA_one ys) e he with h | ⟨b, rfl, hb⟩
      · rcases ev_loadCells ⟨bo, oo, none⟩ L 0 #[] w #[] (fun j hj => ⟨_, hsrc (0 + j) ((bytesA ys)[j]'(by omega)) (by simp [hsize, hj])⟩) e h with h | ⟨b, rfl, hb⟩
        · simp at h
        · exact ⟨b, false, rfl, .inr ⟨hb, rfl⟩⟩
      · exact ⟨b, true, rfl, .inl hb⟩

section
variable [Payload] {main : Bool} {Wg C n B : Nat} {Cl : Nat → Prop}
theorem dg_copy {w : World} {N bo : Nat} {c' : Array Value} (hm : Mine w N) (hne : N ≠ C) (hb : N < w.heap.size) (hr : Rdb Wg C B w bo) (hbo : bo < w.heap.size) {es : Array Event}
    (he : ∀ e ∈ es, ∃ b wr, e = ⟨.cell b, wr, false⟩ ∧ (b.block = N ∨ (b.block = bo ∧ wr = false))) : Dg Wg C n B Cl w (w.setRow N c') es := by
  refine ⟨by rw [sz_row]; omega, rfl, rfl, fun b _ hb' _ => heap_row_other w c' (fun e => hb' (e ▸ hm)), fun i _ => cell_row_other w c' (Ne.symm hne), fun ⟨cs, h1, h2⟩ => ⟨cs, (heap_row_other w c' (Ne.symm hne)).trans h1, h2⟩, fun e he' => ?_⟩
  obtain ⟨b, wr, rfl, hbb | ⟨hbb, rfl⟩⟩ := he e he'
  · exact ⟨b, wr, rfl, by rw [sz_row]; omega, .inl (by rw [hbb]; exact hm)⟩
  · exact ⟨b, false, rfl, by rw [sz_row]; omega, hr.elim (fun x => .inl (by rw [hbb]; exact x)) fun x => .inr (.inr (.inr (by rw [hbb]; exact ⟨x.1, x.2.1, x.2.2, rfl⟩)))⟩

set_option maxRecDepth 100000 in
set_option maxHeartbeats 2000000 in
theorem copyOf_c (L : Nat) (hL : L ≤ 140737488355328) : ∃ q, ∀ (w : World) (bs : Option Addr) (bo oo co : Nat) (ys : List Nat), (0 < L → bs = some ⟨bo, oo, none⟩) → LenIs ys L → Bs C B w → Rdb Wg C B w bo → (∀ i y, ys[i]? = some y → w.cell? ⟨bo, oo + i, none⟩ = some (.int .u8 ((y : Nat) : Int))) →
    CallsC Try.prog main (Ro Wg C n B Cl) (Dg Wg C n B Cl) 37 #[.slice bs L co] q w fun v w' => ∃ N, v = .slice (some ⟨N, 0, none⟩) L L ∧ CG Wg C n B Cl w N ys w' := by
  obtain ⟨i0, hi, hz0, hz1, hz2⟩ := info_parts info_u8
  have hmk : ∀ w : World, (Instr.makeSlice 41 (.int .i64 (L : Int)) (.int .i64 (L : Int))).run Try.prog w = .ok (.slice (some ⟨w.heap.size, 0, none⟩) L L) (w.alloc (.cells (madeCells #[.int .u8 0] L) 5)) := fun w => by
    have := run_make (P := Try.prog) w 41 5 i0 (.int .u8 0) Try.underlying41 hi hz0 .i64 .i64 (L : Int) (L : Int) (by omega) (by omega) (by rw [hz2]; omega) (by omega)
    rw [hz1, show (Value.int .u8 0).cells = #[.int .u8 0] from rfl] at this
    simpa using this
  have hme : ∀ (w : World) (es : Array Event), (Instr.makeSlice 41 (.int .i64 (L : Int)) (.int .i64 (L : Int))).events Try.prog w es = es := fun w es =>
    events_make (P := Try.prog) w 41 5 i0 (.int .u8 0) Try.underlying41 hi hz0 .i64 .i64 (L : Int) (L : Int) (by omega) (by omega) (by rw [hz2]; omega) (by omega) (by rw [hz2]; simp; omega) es
  clear hi hz0 hz1 hz2
  co_apply Exists.intro
  intro w bs bo oo co ys hbs hl hb hr hcs
  co_apply callsC_of_wpC Try.func37 (by rfl) rfl
  simp only [Try.ntmps37, List.size_toArray, List.length_cons, List.length_nil, Nat.reduceAdd, Nat.reduceSub, Array.replicate_succ, Array.replicate_zero, List.push_toArray, List.append_toArray, List.nil_append, List.cons_append]
  have hF : CF Wg C n B Cl w w := ⟨hb, .refl w⟩
  co_apply wpC_seq termsG
  co_reg termsG
  co_op CF.rely hF (co_quiet termsG)
  co_apply opsC_nil termsG
  co_then
  co_apply wpC_seq termsG
  co_reg termsG
  co_op CF.rely hF (co_quiet termsG)
  co_op CF.rely hF (co_quiet termsG)
  co_opw CF.rely hF (skip) (rw [listed_nil (by simp [go_sem, *])]; exact dg_alloc hF.bs.hC _ rfl)
  replace hF := hF.alloc L
  generalize hN : Array.size (World.heap _) = N at hF ⊢
  clear hN
  co_op CG.rely hF (co_quiet termsG)
  co_apply opsC_nil termsG
  co_then
  co_apply wpC_seq termsG
  co_reg termsG
  co_op CG.rely hF (co_quiet termsG)
  co_op CG.rely hF (co_quiet termsG)
  have hN1 := hF.lo
  have hN2 := hb.hC
  co_apply opsC_cons_k rfl (by rfl)
  intro w1 hR K hK
  replace hF := hF.rely hR
  clear hR
  have hcp : CopyOk w1 N L bs co bo ys := copy_ok w1 N L bs co bo oo ys hbs hl (fun i y hy => by rw [← hcs i y hy]; simp only [World.cell?, hF.ex.stands hr id]) (by simp [bytesA]) hF.hx
  obtain ⟨hc1, hc2⟩ := hcp
  go_simp
  refine hK _ _ ⟨?_, ?_⟩
  · refine dg_copy hF.mn (by omega) (hF.bs.lt hF.mn) (hF.ex.rdb hr) (hF.bs.rdb_lt (hF.ex.rdb hr)) ?_
    intro e he
    have hm := mem_listed he
    simp [go_sem] at hm
    exact hc2 e hm
  clear hK K hc1 hc2
  replace hF : CG Wg C n B Cl w N ys (w1.setRow N (bytesA ys)) := ⟨hF.bs.row _ _, ex_row hF.ex hb hN1 _, hN1, mine_grow (w := w1) (w' := w1.setRow N (bytesA ys)) rfl (by rw [sz_row]; omega) hF.mn, heap_row _ hF.hx⟩
  try walk_nrm
  co_apply opsC_nil termsG
  co_then
  co_apply wpC_seq termsG
  co_reg termsG
  co_op CG.rely hF (co_quiet termsG)
  co_op CG.rely hF (co_quiet termsG)
  co_apply opsC_nil termsG
  co_then
  co_apply wpC_ret termsG
  exact ⟨rfl, _, resultsC_tmp (by rfl) _, N, rfl, hF⟩
end
end Go.Proofs.Ytkpcmfgeanlcnaa

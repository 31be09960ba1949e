/-
  What the rows' condition says of the six variables.
-/
import Derived.Test.YtlghjjennhpjeaaGreatDoorRows
import Derived.Test.YtlghjjennhpjeaaGreatDoorErD
import Derived.Test.YtlghjjennhpjeaaGreatDoorPlD
import Derived.LaidMore
import Derived.LaidSub
import Derived.LaidHandle
import Derived.Lib.LaidTab
import Derived.Stop.LaidErr
import Derived.Test.YtlghjjennhpjeaaGreatDoorPcA
import Derived.Test.YtlghjjennhpjeaaGreatDoorErA
import Derived.Test.YtlghjjennhpjeaaGreatDoorPlA
import Derived.Test.YtlghjjennhpjeaaGreatDoorSvE
namespace Go.Proofs.YtlghjjennhpjeaaGreatDoor
open Go.RowKit

theorem gFour : Tryz.prog.globalNamed "cairn/sum.fourSteps" = some 3 := by kernel_rfl
theorem tFour : (Tryz.prog.globals[3]?).map (·.type) = some 216 := by kernel_rfl
theorem gPow : Tryz.prog.globalNamed "internal/strconv.uint64pow10" = some 4 := by kernel_rfl
theorem tPow : (Tryz.prog.globals[4]?).map (·.type) = some 227 := by kernel_rfl
theorem gEarly : Tryz.prog.globalNamed "cairn/fault.TooEarly" = some 0 := by kernel_rfl
theorem tEarly : (Tryz.prog.globals[0]?).map (·.type) = some 45 := by kernel_rfl
theorem gErrT : Tryz.prog.globalNamed "errors.errorType" = some 1 := by kernel_rfl
theorem star : "*" ++ "errors.errorString" = "*errors.errorString" := by decide
theorem rowErrS (u : TypeId) (h : Tryz.prog.typeName? 3 u = some "*errors.errorString") : u = 234 :=
  typeName_ptr_named (nm := "errors.errorString") (by rw [star]; kernel_rfl) (by kernel_rfl) (by decide) u (by rw [star]; exact h)
theorem rtRow : (Tryz.prog.cutTypes.find? (·.1 == "internal/reflectlite.rtype")).map (·.2) = some 163 := by kernel_rfl
theorem nTypes : Tryz.prog.types.size = 265 := by kernel_rfl
theorem oneError : ((List.range 265).filter fun t => Tryz.prog.rowNamed t [101, 114, 114, 111, 114]) = [45] := by kernel_rfl

theorem laid_one {L : List (String × DataW Unit)} {W : World} (h : laidMetH Tryz.prog L W) (n : String) (d : DataW Unit) (hf : L.filter (fun x => x.1 == n) = [(n, d)]) (hn : d.handleName?.isNone = true) : laidMet Tryz.prog [(n, d)] W := by
  have := h.filter (fun x => x.1 == n)
  rw [hf] at this
  rwa [MakeChecks.laidMetH_plain _ _ _ (by simp [hn])] at this

theorem tab_laid {W : World} (h : laidMetH Tryz.prog Rows.decodesUptoRow.laid W) : Tab W := by
  have h1 := laid_one h "cairn/sum.fourSteps" Rows.laid_cairn_sum_fourSteps (by rfl) (by rfl)
  have hT : Lib.TabIs Tryz.prog W "cairn/sum.fourSteps" .u64 (crcTab.map fun (n : Nat) => (n : Int)) :=
    Lib.tabIs_of_head gFour tFour Tryz.underlying216 Tryz.underlying154 (by kernel_rfl) (by kernel_rfl) h1
  have hc : ∀ i, i < 16 → W.cell? ⟨3, i, none⟩ = some (.int .u64 ((crcTab.getD i 0 : Nat) : Int)) := by
    intro i hi
    have := hT.cell gFour i (by simpa [crcTab] using hi)
    rw [this]
    simp only [List.getD_eq_getElem?_getD, List.getElem?_map]
    cases crcTab[i]? <;> simp
  exact ⟨cell_lt (hc 0 (by omega)), hc⟩
theorem pow_laid {W : World} (h : laidMetH Tryz.prog Rows.decodesUptoRow.laid W) : Pow W ∧ 4 < W.heap.size := by
  have h1 := laid_one h "internal/strconv.uint64pow10" Rows.laid_internal_strconv_uint64pow10 (by rfl) (by rfl)
  have hT : Pow W := Lib.tabIs_of_head gPow tPow Tryz.underlying227 Tryz.underlying154 (by kernel_rfl) (by kernel_rfl) h1
  exact ⟨hT, cell_lt (Lib.TabIs.cell hT gPow 0 (by decide))⟩
theorem early_laid {W : World} (h : laidMetH Tryz.prog Rows.decodesUptoRow.laid W) : ∃ a, Early W a := by
  have h1 := laid_one h "cairn/fault.TooEarly" Rows.laid_cairn_fault_TooEarly (by rfl) (by rfl)
  obtain ⟨a, s, hv, _⟩ := laid_sentinel h1 gEarly tEarly Tryz.underlying45 rowErrS Tryz.underlying234 Tryz.underlying254 rfl rfl Tryz.underlying9 (by kernel_rfl) (by kernel_rfl)
  exact ⟨a, by unfold Early; simpa using World.var?_cell gEarly hv 0⟩
theorem errT_laid {W : World} (h : laidMetH Tryz.prog Rows.decodesUptoRow.laid W) : ErrT W := by
  have h' := (laidMetH_iff.1 h).2
  obtain ⟨name, u, ty, e1, e2, e3, e4, e5⟩ := h' ("errors.errorType", Rows.laid_errors_errorType) (List.mem_filter.2 ⟨by simp [Rows.decodesUptoRow], rfl⟩)
  have en : name = [101, 114, 114, 111, 114] := (Option.some.inj e1).symm
  subst en
  obtain rfl := Option.some.inj (rtRow.symm.trans e2)
  have hm : ty ∈ (List.range 265).filter fun t => Tryz.prog.rowNamed t [101, 114, 114, 111, 114] := List.mem_filter.2 ⟨List.mem_range.2 (by rw [← nTypes]; exact e3), e4⟩
  rw [oneError] at hm
  obtain rfl := List.mem_singleton.1 hm
  have hh : typeHandle Tryz.prog 45 = .pointer (some ⟨7, 45, none⟩) := by kernel_rfl
  rw [hh] at e5
  unfold ErrT
  simpa using World.var?_cell gErrT e5 0
end Go.Proofs.YtlghjjennhpjeaaGreatDoor

/-
  The document's blobs: the columns one behind the other, cut up by the sizes: run alone.
-/
namespace Go.Proofs.YtlghjjennhpjeaaGreatDoor
open Go.RowKit Go.Deep Go.Hp

/-- So many blobs are cut. -/
structure BlR (B : Nat) (ns : List (List UInt8)) (sz : List Nat) (l : List UInt8) (i : Nat) (f : Nat → Ent) (vo : Value) (w : World) : Prop where
  row : w.ownsRow B 63 2 vo i (blobL i f)
  dat : ∀ j, j < i → (f j).k = ns.getD j [] ∧ w.ownsRow B 5 1 (f j).d (pcB sz l j).length (u8V (pcB sz l j))
theorem BlR.more {B : Nat} {ns : List (List UInt8)} {sz : List Nat} {l : List UInt8} {i : Nat} {f : Nat → Ent} {vo v' : Value} {w w1 wa w2 : World} {e : Ent} (h : BlR B ns sz l i f vo w) (hb1 : Below w.heap.size w w1) (ho1 : w1.ownsRow B 5 1 e.d (pcB sz l i).length (u8V (pcB sz l i))) (he : e.k = ns.getD i []) (ha : Below w1.heap.size w1 wa) (hg : wa.grownBy w2 vo.ownBlock) (ho : w2.ownsRow B 63 2 v' (i + 1) (blobL i f ++ [.string ⟨e.k.toArray⟩, e.d])) :
    BlR B ns sz l (i + 1) (fun j => if j = i then e else f j) v' w2 := by
  have s1 := hb1.size
  have s2 := ha.size
  refine ⟨?_, fun j hj => ?_⟩
  · rw [blobL_succ, if_pos rfl, blobL_congr (g := f) fun j hj => by rw [if_neg (by omega)]]
    exact ho
  · by_cases e1 : j = i
    · subst e1
      rw [if_pos rfl]
      refine ⟨he, owns_keep' ho1 fun g hg' => ?_⟩
      have hl := (ho1.lt g hg').2
      rw [hg.block g (by omega) (fun e => ?_), ha.block g hl]
      have hr := owns_keep' h.row fun x hx => hb1.block x (h.row.lt x hx).2
      exact kind_ne ho1 hr (by decide) hg' e.symm
    · rw [if_neg e1]
      obtain ⟨d1, d2⟩ := h.dat j (by omega)
      refine ⟨d1, owns_keep' d2 fun g hg' => ?_⟩
      have hl := (d2.lt g hg').2
      rw [hg.block g (by omega) (fun e => kind_ne d2 h.row (by decide) hg' e.symm), ha.block g (by omega), hb1.block g hl]

theorem one_two (x : ByteArray) (a : Option Addr) (n c : Nat) : ∀ u ∈ [Value.string x, .slice a n c], u.oneCell' = true := by
  intro u hu
  simp at hu
  rcases hu with rfl | rfl <;> rfl
theorem BlR.mono {B B' : Nat} {ns : List (List UInt8)} {sz : List Nat} {l : List UInt8} {i : Nat} {f : Nat → Ent} {vo : Value} {w : World} (h : BlR B ns sz l i f vo w) (hB : B' ≤ B) : BlR B' ns sz l i f vo w :=
  ⟨h.row.mono hB, fun j hj => ⟨(h.dat j hj).1, (h.dat j hj).2.mono hB⟩⟩

set_option maxHeartbeats 4000000 in
set_option maxRecDepth 100000 in
theorem blobs_ref (s : Shd) (vN vS vC : Value) (k go B0 : Nat) (ov : Nat → Value) (ls : Nat → List UInt8) (w : World) (hN : Lies w vN (nameV s.names)) (hS : Lies w vS (natV s.sizes)) (hln : s.names.length = s.sizes.length) (hnl : s.names.length ≤ 1048576) (hR : ∀ j, j < k → w.cell? ⟨go, j, none⟩ = some (ov j)) (hD : ∀ j, j < k → w.ownsRow B0 5 1 (ov j) (ls j).length (u8V (ls j)))
    (hk : k ≤ 128) (hT : (joinD ls k).length ≤ 16777216) (hsum : s.sizes.sum ≤ (joinD ls k).length) :
    Calls Tryz.prog 14 #[.agg (shQ s vN vS vC).toArray, .slice (some ⟨go, 0, none⟩) k k] w fun r w' => Below w.heap.size w w' ∧ ∃ vo f, r = .returned vo ∧ BlR w.heap.size s.names s.sizes (joinD ls k) s.names.length f vo w' := by
  obtain ⟨i0, hi0, hz0, hz1, hz2⟩ := info_parts infoB8
  obtain ⟨i1, hi1, hy0, hy1, hy2⟩ := info_parts Tryz.infoBlob
  unfold shQ
  have b0 : Below w.heap.size w (w.alloc (.cells #[.int .i64 (s.k : Int), .int .i64 (s.n : Int), .int .i64 (s.i : Int), .int .i64 (s.c : Int), vN, vS, vC] 41)) := (Below.refl _ _).alloc (Nat.le_refl _) _
  have ra := RowAt.made w [.int .i64 (s.k : Int), .int .i64 (s.n : Int), .int .i64 (s.i : Int), .int .i64 (s.c : Int), vN, vS, vC] 41
  have a4 := ra.cell (i := 4) rfl
  have a5 := ra.cell (i := 5) rfl
  have ltx : w.heap.size < (w.alloc (.cells #[.int .i64 (s.k : Int), .int .i64 (s.n : Int), .int .i64 (s.i : Int), .int .i64 (s.c : Int), vN, vS, vC] 41)).heap.size := by simp
  clear ra
  obtain ⟨pn, cn, rfl⟩ := hN.len
  obtain ⟨ps, cs, rfl⟩ := hS.len
  rw [nameV_length] at *
  rw [natV_length] at *
  have HL : Hid (s.names.length = s.sizes.length) := hln
  clear hln
  go_enter Tryz.func14, Tryz.ntmps14
  go_wp2
  generalize hw0 : w.alloc (.cells #[.int .i64 (s.k : Int), .int .i64 (s.n : Int), .int .i64 (s.i : Int), .int .i64 (s.c : Int), .slice pn s.names.length cn, .slice ps s.sizes.length cs, vC] 41) = W0 at *
  clear hw0
  have p0 : W0.ownsRow W0.heap.size 5 1 (.slice none 0 0) (joinD ls 0).length (u8V (joinD ls 0)) := World.ownsRow_nil _ _ _ _
  have hs0 := b0.size
  generalize hh : W0.heap.size = h at *
  go_loopw [5, 6] (fun va vj wr => ∃ j : Nat, j ≤ k ∧ vj = .int .i64 (j : Int) ∧ wr.ownsRow h 5 1 va (joinD ls j).length (u8V (joinD ls j)) ∧ Below h W0 wr) (fun _ vj _ => k - (intOf vj).toNat)
  case atStart => exact ⟨0, by omega, rfl, p0, Below.refl _ _⟩
  case round =>
    clear p0
    obtain ⟨j, hj, rfl, ho, hb⟩ := hrel
    have hs : h ≤ wr.heap.size := hh ▸ hb.size
    have hbw : Below w.heap.size w wr := b0.trans (hb.mono hs0)
    by_cases hlt : j < k
    · have hlt' : (j : Int) < (k : Int) := by omega
      have c0 := below_cell hbw (Nat.le_refl _) (hR j hlt)
      have hlen : (joinD ls j).length + (ls j).length ≤ 16777216 := by
        have := joinD_le ls (i := j + 1) (n := k) (by omega)
        simp only [joinD, List.length_append] at this
        omega
      have hDj := owns_keep' (hD j hlt) fun g hg => hbw.block g ((hD j hlt).lt g hg).2
      rcases id hDj.2 with ⟨ea, el⟩ | ⟨g, cap, _, ea, _⟩
      · rw [ea] at c0
        have hnil : ls j = [] := List.length_eq_zero_iff.1 el
        go_wp2_with (at_builtin; refine wpList_append_own_none rfl _ _ 24 rfl h 5 i0 1 Tryz.underlying24 hi0 _ _ _ rfl ho rfl ?_)
        go_roundw
        case rel => exact ⟨j + 1, by omega, by go_num, by simp only [joinD, hnil, List.append_nil]; exact ho, hb⟩
        case measure => simp [intOf]; omega
      · have hL := lies_owns hDj
        rw [ea] at c0 hL
        have hcs : ∀ i u, (u8V (ls j))[i]? = some u → wr.cell? ((⟨g, 0, none⟩ : Addr).add i) = some u := fun i u hu => by
          obtain ⟨b', o', e, hc⟩ := hL.get hu
          cases e
          rw [Addr.add_mid]
          exact hc
        have hfin : u8V (joinD ls (j + 1)) = u8V (joinD ls j) ++ u8V (ls j) ∧ (joinD ls (j + 1)).length = (joinD ls j).length + (ls j).length := ⟨by simp [joinD, u8V], by simp [joinD]⟩
        clear hDj hL ea
        generalize hq : (ls j).length = q at *
        go_wp2_with (at_builtin; refine wpList_append_own _ rfl _ _ 24 rfl h 5 i0 (.int .u8 0) 1 1 Tryz.underlying24 hi0 hz0 hz1 hz2 rfl (by decide) _ _ _ rfl ho ⟨g, 0, none⟩ q cap (u8V (ls j)) rfl (by rw [u8V_length, hq, Nat.mul_one]) hcs (u8V_oneD _) (by unfold maxLen; omega) (by omega) hs ?_; intro v4 w4 ho4 hgrow _; have hb4 := hb.trans (app_below ho hs (Below.refl _ _) hgrow (Nat.le_refl _)))
        go_roundw
        case rel => exact ⟨j + 1, by omega, by go_num, by rw [hfin.1, hfin.2]; exact ho4, hb4⟩
        case measure => simp [intOf]; omega
    · obtain rfl : j = k := by omega
      have hnl2 : ¬ ((j : Int) < (j : Int)) := by omega
      clear hR hD
      generalize hjl : joinD ls j = l at *
      have HJ : Hid (joinD ls j = l) := hjl
      clear hjl hlt hnl2 hj
      obtain ⟨bl, cl, rfl, hbg, hcl⟩ : ∃ bl cl, u5 = .slice bl l.length cl ∧ (bl = none ∧ cl = 0 ∨ ∃ g, bl = some ⟨g, 0, none⟩) ∧ l.length ≤ cl := by
        rcases ho.2 with ⟨h1, h2⟩ | ⟨g, c, _, h1, h2, h3, h4, _⟩
        · exact ⟨none, 0, by rw [h1, h2], .inl ⟨rfl, rfl⟩, by omega⟩
        · exact ⟨_, c, h1, .inr ⟨g, rfl⟩, by omega⟩
      have hal := lies_owns ho
      have q0 : BlR wr.heap.size s.names s.sizes l 0 (fun _ => ⟨[], none, 0, 0⟩) (.slice none 0 0) wr := ⟨World.ownsRow_nil _ _ _ _, fun j hj => absurd hj (by omega)⟩
      have hws : w.heap.size ≤ wr.heap.size := hbw.size
      have b4 := below_cell hb (by omega) a4
      have b5 := below_cell hb (by omega) a5
      have gN := hN.below hbw
      have gS := hS.below hbw
      clear a4 a5 ltx hN hS ho b0 hb hs0 hs hh
      go_wp2
      generalize hB : wr.heap.size = B at *
      generalize wr = wx at *
      go_loopw [7, 8, 9] (fun vo va vi wq => ∃ (i : Nat) (f : Nat → Ent), i ≤ s.names.length ∧ vi = .int .i64 (i : Int) ∧ va = .int .i64 ((pre s.sizes i : Nat) : Int) ∧ BlR B s.names s.sizes l i f vo wq ∧ Below B wx wq) (fun _ _ vi _ => s.names.length - (intOf vi).toNat)
      case atStart => exact ⟨0, _, by omega, rfl, by simp [pre], q0, Below.refl _ _⟩
      case round =>
        clear q0
        obtain ⟨i, f, hi, rfl, rfl, hq, hb⟩ := hrel
        have hsB : B ≤ wr.heap.size := hB ▸ hb.size
        by_cases hlt : i < s.names.length
        · have hlt1 : (i : Int) < (s.names.length : Int) := by omega
          have hlt2 : (i : Int) < (s.sizes.length : Int) := by rw [← HL.out]; omega
          have hp1 := pre_succ (sz := s.sizes) (i := i) (by rw [← HL.out]; exact hlt)
          have hp2 := pre_le s.sizes (i + 1)
          obtain ⟨gn, on, rfl, c1⟩ := gN.get (nameV_at hlt)
          obtain ⟨gs, os, rfl, c2⟩ := gS.get (natV_at (l := s.sizes) (j := i) (by rw [← HL.out]; exact hlt))
          have cells : ∀ w', Below B wx w' → w'.cell? ⟨w.heap.size, 4, none⟩ = some (.slice (some ⟨gn, on, none⟩) s.names.length cn) ∧ w'.cell? ⟨w.heap.size, 5, none⟩ = some (.slice (some ⟨gs, os, none⟩) s.sizes.length cs) ∧ w'.cell? ⟨gn, on + i, none⟩ = some (.string ⟨(s.names.getD i []).toArray⟩) ∧ w'.cell? ⟨gs, os + i, none⟩ = some (.int .i64 ((s.sizes.getD i 0 : Nat) : Int)) := fun w' hb' => ⟨below_cell hb' (by omega) b4, below_cell hb' (by omega) b5, below_cell hb' (by omega) c1, below_cell hb' (by omega) c2⟩
          have el : (pcB s.sizes l i).length = s.sizes.getD i 0 := by unfold pcB; rw [List.length_take, List.length_drop]; omega
          have hpart : ∀ w', Below B wx w' → ∀ g, bl = some ⟨g, 0, none⟩ → ∀ x u, (u8V (pcB s.sizes l i))[x]? = some u → w'.cell? ((⟨g, pre s.sizes i, none⟩ : Addr).add x) = some u := fun w' hb' g hg x u hu => by
            subst hg
            obtain ⟨b', o', e', hc⟩ := (lies_part hal (s := pre s.sizes i) (t := s.sizes.getD i 0) (by omega) (s.sizes.getD i 0) (Nat.le_refl _)).get hu
            cases e'
            rw [Addr.add_mid]
            exact below_cell hb' (by omega) (by simpa using hc)
          obtain ⟨e4, e5, e1, e2⟩ := cells wr hb
          have hpl : ((pre s.sizes i : Nat) : Int) ≤ ((pre s.sizes i : Nat) : Int) + ((s.sizes.getD i 0 : Nat) : Int) := by omega
          have hpc : ((pre s.sizes i : Nat) : Int) + ((s.sizes.getD i 0 : Nat) : Int) ≤ (cl : Int) := by omega
          have hpd : ((pre s.sizes i : Nat) : Int) + ((s.sizes.getD i 0 : Nat) : Int) ≤ 16777216 := by omega
          have hmore := fun w1 e hb1 ho1 he wa v' w2 ha hg ho => hq.more (w1 := w1) (e := e) hb1 ho1 he (wa := wa) ha (v' := v') (w2 := w2) hg ho
          have hq' := hq.row
          have hl2 : pre s.sizes i + s.sizes.getD i 0 ≤ l.length := by omega
          clear b4 b5 gN gS hq c1 c2
          generalize pcB s.sizes l i = pc at *
          generalize pre s.sizes i = p at *
          generalize s.sizes.getD i 0 = q at *
          generalize s.names.getD i [] = nm at *
          simp only [el] at hmore
          rcases hbg with ⟨rfl, rfl⟩ | ⟨g, rfl⟩
          · obtain rfl : p = 0 := by omega
            obtain rfl : q = 0 := by omega
            have hn1 : pc = [] := List.eq_nil_of_length_eq_zero el
            subst hn1
            have hb1 := Below.refl wr.heap.size wr
            have ho1 : wr.ownsRow B 5 1 (.slice none 0 0) 0 (u8V []) := World.ownsRow_nil _ _ _ _
            have e0 : ((0 : Nat) : Int) = 0 := rfl
            rw [e0] at e2
            simp only [e0] at cells ⊢
            clear e0 hpart hal hpl hpc hpd
            go_wp2_with (first
              | (at_builtin; refine wpList_append_own_none rfl _ _ 24 rfl B 5 i0 1 Tryz.underlying24 hi0 _ _ _ rfl ho1 rfl ?_)
              | (at_builtin; refine wpList_append_own _ rfl _ _ 25 rfl B 63 i1 (.agg #[.string ⟨#[]⟩, .slice none 0 0]) 2 40 Tryz.underlying25 hi1 hy0 hy1 hy2 rfl (by decide) _ _ _ rfl (hq'.alloc _) ⟨wr.heap.size, 0, none⟩ 1 1 [.string ⟨nm.toArray⟩, .slice none 0 0] rfl rfl (cell_two_new _ _ _ _) (one_two _ _ _ _) (by unfold maxLen; omega) (by omega) (by simp; omega) ?_; intro v2 w2 hp2 hgrow _; have hn2 := hmore wr ⟨nm, none, 0, 0⟩ hb1 ho1 rfl _ v2 w2 ((Below.refl wr.heap.size wr).alloc (Nat.le_refl _) _) hgrow hp2; have hb2 := hb.trans ((app_below hq' hsB ((Below.refl wr.heap.size wr).alloc (Nat.le_refl _) _) hgrow (Nat.le_refl _))); obtain ⟨x4, x5, x1, x2⟩ := cells w2 hb2; clear hgrow hp2 hq'))
            go_roundw
            case rel => exact ⟨i + 1, _, by omega, by go_num, by rw [hp1]; rfl, hn2, hb2⟩
            case measure => simp [intOf]; omega
          · obtain ⟨ad, hif, hcd⟩ : ∃ ad, (if cl = p then (some ⟨g, 0, none⟩ : Option Addr) else some ⟨g, p, none⟩) = some ad ∧ ∀ x u, (u8V pc)[x]? = some u → wr.cell? (ad.add x) = some u := by
              by_cases e : cl = p
              · rw [if_pos e]
                refine ⟨_, rfl, fun x u hu => ?_⟩
                have : pc = [] := List.eq_nil_of_length_eq_zero (by omega)
                rw [this] at hu
                simp [u8V] at hu
              · rw [if_neg e]
                exact ⟨_, rfl, hpart wr hb g rfl⟩
            clear hpart hal
            go_wp2_with (first
              | (at_builtin; (try rw [hif]); rw [Nat.add_sub_cancel_left]; refine wpList_append_own _ rfl _ _ 24 rfl B 5 i0 (.int .u8 0) 1 1 Tryz.underlying24 hi0 hz0 hz1 hz2 rfl (by decide) _ _ _ rfl (World.ownsRow_nil _ _ _ _) ad q (cl - p) (u8V pc) rfl (by rw [u8V_length, el, Nat.mul_one]) hcd (u8V_oneD _) (by unfold maxLen; omega) (by omega) hsB ?_; intro v1 w1 ho1 hgrow _; have hb1 : Below wr.heap.size wr w1 := (Below.refl wr.heap.size wr).grown hgrow (Nat.le_refl _) (fun x hx => by cases hx); have hsB1 : B ≤ w1.heap.size := (by have := hb1.size; omega); rw [Nat.zero_add, List.nil_append] at ho1; have hr1 := owns_keep' hq' (fun x hx => hb1.block x (hq'.lt x hx).2); obtain ⟨b1, c1, rfl⟩ := owns_form ho1; obtain ⟨x4, x5, x1, x2⟩ := cells w1 (hb.trans (hb1.mono hsB)); clear hgrow)
              | (at_builtin; refine wpList_append_own _ rfl _ _ 25 rfl B 63 i1 (.agg #[.string ⟨#[]⟩, .slice none 0 0]) 2 40 Tryz.underlying25 hi1 hy0 hy1 hy2 rfl (by decide) _ _ _ rfl (hr1.alloc _) ⟨w1.heap.size, 0, none⟩ 1 1 [.string ⟨nm.toArray⟩, .slice b1 q c1] rfl rfl (cell_two_new _ _ _ _) (one_two _ _ _ _) (by unfold maxLen; omega) (by omega) (by simp; omega) ?_; intro v2 w2 hp2 hgrow _; have hn2 := hmore w1 ⟨nm, b1, q, c1⟩ hb1 ho1 rfl _ v2 w2 ((Below.refl w1.heap.size w1).alloc (Nat.le_refl _) _) hgrow hp2; have hb2 := hb.trans ((hb1.mono hsB).trans (app_below hr1 hsB1 ((Below.refl w1.heap.size w1).alloc (Nat.le_refl _) _) hgrow (Nat.le_refl _))); obtain ⟨x4, x5, x1, x2⟩ := cells w2 hb2; clear hgrow hp2 hr1))
            go_roundw
            case rel => exact ⟨i + 1, _, by omega, by go_num, by go_num, hn2, hb2⟩
            case measure => simp [intOf]; omega
        · obtain rfl : i = s.names.length := by omega
          have hnl3 : ¬ ((s.names.length : Int) < (s.names.length : Int)) := by omega
          have d4 := below_cell hb (by omega) b4
          clear b4 b5
          go_wp2
          go_ret
          exact ⟨hbw.trans (hb.mono (by omega)), _, rfl, f, by rw [HJ.out]; exact hq.mono (by omega)⟩
end Go.Proofs.YtlghjjennhpjeaaGreatDoor

/-
  The document's alike: are two shards of one archive: run alone.
-/
namespace Go.Proofs.YtlghjjennhpjeaaGreatDoor
open Go.RowKit Go.Deep

theorem oneA_ne {s t : Shd} (h : s.names ≠ t.names ∨ s.sizes ≠ t.sizes) : oneA s t = false := by
  unfold oneA
  rcases h with h | h <;> simp [h]
theorem list_same {α : Type} {a b : List α} (h : a.length = b.length) (h2 : ∀ j, j < a.length → a[j]? = b[j]?) : a = b := by
  apply List.ext_getElem?
  intro j
  by_cases hj : j < a.length
  · exact h2 j hj
  · rw [List.getElem?_eq_none (by omega), List.getElem?_eq_none (by omega)]
set_option maxHeartbeats 2000000 in
set_option maxRecDepth 100000 in
theorem alike_any (s t : Shd) (vN vS vC vN' vS' vC' : Value) (w : World) (hN : Lies w vN (nameV s.names)) (hS : Lies w vS (natV s.sizes)) (hN' : Lies w vN' (nameV t.names)) (hS' : Lies w vS' (natV t.sizes)) (hs : s.names.length = s.sizes.length) (ht : t.names.length = t.sizes.length) (hl : s.names.length ≤ 1048576) :
    Calls Tryz.prog 35 #[.agg (shQ s vN vS vC).toArray, .agg (shQ t vN' vS' vC').toArray] w fun r w' => r = .returned (.bool (oneA s t)) ∧ Below w.heap.size w w' := by
  have hsD : Hid (s.names.length = s.sizes.length) := hs
  have htC : Hid (t.names.length = t.sizes.length) := ht
  clear hs ht
  unfold shQ
  have b0 : Below w.heap.size w (w.alloc (.cells #[.int .i64 (s.k : Int), .int .i64 (s.n : Int), .int .i64 (s.i : Int), .int .i64 (s.c : Int), vN, vS, vC] 41)) := (Below.refl _ _).alloc (Nat.le_refl _) _
  have ra := RowAt.made w [.int .i64 (s.k : Int), .int .i64 (s.n : Int), .int .i64 (s.i : Int), .int .i64 (s.c : Int), vN, vS, vC] 41
  have rb := RowAt.made (w.alloc (.cells #[.int .i64 (s.k : Int), .int .i64 (s.n : Int), .int .i64 (s.i : Int), .int .i64 (s.c : Int), vN, vS, vC] 41)) [.int .i64 (t.k : Int), .int .i64 (t.n : Int), .int .i64 (t.i : Int), .int .i64 (t.c : Int), vN', vS', vC'] 41
  have ra' := ra.later (S := fun _ => False) (.of_below ((Below.refl _ _).alloc (Nat.le_refl _) (.cells #[.int .i64 (t.k : Int), .int .i64 (t.n : Int), .int .i64 (t.i : Int), .int .i64 (t.c : Int), vN', vS', vC'] 41))) ra.lt id
  have a4 := ra'.cell (i := 4) rfl
  have a5 := ra'.cell (i := 5) rfl
  have d4 := rb.cell (i := 4) rfl
  have d5 := rb.cell (i := 5) rfl
  have hsz : (w.alloc (.cells #[.int .i64 (s.k : Int), .int .i64 (s.n : Int), .int .i64 (s.i : Int), .int .i64 (s.c : Int), vN, vS, vC] 41)).heap.size = w.heap.size + 1 := by simp
  rw [hsz] at d4 d5
  clear ra rb ra' hsz
  have b1 := b0.alloc b0.size (.cells #[.int .i64 (t.k : Int), .int .i64 (t.n : Int), .int .i64 (t.i : Int), .int .i64 (t.c : Int), vN', vS', vC'] 41)
  obtain ⟨bn, cn, en⟩ := hN.len
  obtain ⟨bn', cn', en'⟩ := hN'.len
  rw [nameV_length] at en en'
  subst en en'
  have gN := hN.below b1
  have gN' := hN'.below b1
  have gS := hS.below b1
  have gS' := hS'.below b1
  clear hN hN' hS hS'
  go_enter Tryz.func35, Tryz.ntmps35
  have nt : ∀ {a b : Nat}, ((a : Int) != (b : Int)) = true → ((a : Int) == (b : Int)) = false := fun h => by simpa [bne] using h
  have nf : ∀ {a b : Nat}, ((a : Int) != (b : Int)) = false → ((a : Int) == (b : Int)) = true := fun h => by simpa [bne] using h
  rcases h1 : ((s.k : Int) != (t.k : Int)) with _ | _
  rotate_left
  · have q1 := nt h1
    clear nt nf
    go_wp2
    go_ret
    exact ⟨by rw [oneA, q1]; rfl, b1⟩
  rcases h2 : ((s.n : Int) != (t.n : Int)) with _ | _
  rotate_left
  · have q1 := nt h2
    clear nt nf
    go_wp2
    go_ret
    exact ⟨by rw [oneA, q1]; simp, b1⟩
  rcases h3 : ((s.c : Int) != (t.c : Int)) with _ | _
  rotate_left
  · have q1 := nt h3
    clear nt nf
    go_wp2
    go_ret
    exact ⟨by rw [oneA, q1]; simp, b1⟩
  rcases h4 : ((s.names.length : Int) != (t.names.length : Int)) with _ | _
  rotate_left
  · clear nt nf
    go_wp2
    go_ret
    exact ⟨by rw [oneA_ne (.inl fun e => by rw [e] at h4; simp at h4)]; rfl, b1⟩
  have hlen : s.names.length = t.names.length := by
    have := eq_of_beq (nf h4)
    omega
  obtain ⟨bs, cs, es⟩ := gS.len
  obtain ⟨bs', cs', es'⟩ := gS'.len
  have hsl : (natV s.sizes).length = s.names.length := by rw [hsD.out]; simp [natV]
  have hsl' : (natV t.sizes).length = s.names.length := by rw [hlen, htC.out]; simp [natV]
  rw [hsl] at es
  rw [hsl'] at es'
  subst es es'
  have hlen' := hlen.symm
  simp only [hlen'] at a4 a5 d4 d5 gN gN' gS gS' b1 ⊢
  clear hlen'
  clear hsl hsl'
  generalize hL : s.names.length = L at *
  have hlE : Hid (s.names.length = L) := hL
  have hnB : Hid (L = t.names.length) := hlen
  have hzA : Hid (L = s.sizes.length) := hsD.out
  clear hL h4 hlen hsD
  go_wp2
  generalize ((w.alloc (.cells #[.int .i64 (s.k : Int), .int .i64 (s.n : Int), .int .i64 (s.i : Int), .int .i64 (s.c : Int), .slice bn L cn, .slice bs L cs, vC] 41)).alloc (.cells #[.int .i64 (t.k : Int), .int .i64 (t.n : Int), .int .i64 (t.i : Int), .int .i64 (t.c : Int), .slice bn' L cn', .slice bs' L cs', vC'] 41)) = W0 at *
  go_loopw [5] (fun vi wr => ∃ j : Nat, j ≤ L ∧ vi = .int .i64 (j : Int) ∧ (∃ m, wr = W0.drewN m) ∧ ∀ q, q < j → s.names[q]? = t.names[q]? ∧ s.sizes[q]? = t.sizes[q]?) (fun vi _ => L - (intOf vi).toNat)
  case atStart => exact ⟨0, by omega, rfl, ⟨0, rfl⟩, fun q hq => absurd hq (by omega)⟩
  case round =>
    obtain ⟨j, hj, rfl, hw, hsame⟩ := hrel
    have up : ∀ {p : Addr} {u : Value}, W0.cell? p = some u → wr.cell? p = some u := fun {p u} h => by obtain ⟨m, rfl⟩ := hw; exact h
    have e4 := up a4
    have e5 := up a5
    have f4 := up d4
    have f5 := up d5
    have hbel : Below w.heap.size w wr := by obtain ⟨m, rfl⟩ := hw; exact below_drewN b1 m
    by_cases hlt : j < L
    · have hlt' : (j : Int) < (L : Int) := by omega
      have hjs : j < s.names.length := by rw [hlE.out]; exact hlt
      obtain ⟨g1, o1, rfl, c1⟩ := gN.get (nameV_at (l := s.names) (j := j) hjs)
      obtain ⟨g2, o2, rfl, c2⟩ := gN'.get (nameV_at (l := t.names) (j := j) (by rw [← hnB.out]; exact hlt))
      have hjz : j < s.sizes.length := by rw [← hzA.out]; exact hlt
      have hjt : j < t.names.length := by rw [← hnB.out]; exact hlt
      have hjy : j < t.sizes.length := by rw [← htC.out]; exact hjt
      obtain ⟨g3, o3, rfl, c3⟩ := gS.get (natV_at (l := s.sizes) (j := j) hjz)
      obtain ⟨g4, o4, rfl, c4⟩ := gS'.get (natV_at (l := t.sizes) (j := j) hjy)
      replace c1 := up c1
      replace c2 := up c2
      replace c3 := up c3
      replace c4 := up c4
      have nx : s.names.getD j [] = t.names.getD j [] → s.sizes.getD j 0 = t.sizes.getD j 0 → ∀ q, q < j + 1 → s.names[q]? = t.names[q]? ∧ s.sizes[q]? = t.sizes[q]? := fun n1 n2 q hq => by
        by_cases et : q = j
        · subst et
          simp only [List.getD_eq_getElem?_getD, List.getElem?_eq_getElem hjs, List.getElem?_eq_getElem hjt, List.getElem?_eq_getElem hjz, List.getElem?_eq_getElem hjy, Option.getD_some] at n1 n2 ⊢
          rw [n1, n2]
          exact ⟨rfl, rfl⟩
        · exact hsame q (by omega)
      have no : s.names.getD j [] ≠ t.names.getD j [] ∨ s.sizes.getD j 0 ≠ t.sizes.getD j 0 → oneA s t = false := fun h => oneA_ne (h.imp (fun h e => h (by rw [e])) (fun h e => h (by rw [e])))
      clear hjs hjz hjt hjy a4 a5 d4 d5
      generalize s.names.getD j [] = n1 at *
      generalize t.names.getD j [] = n2 at *
      generalize s.sizes.getD j 0 = z1 at *
      generalize t.sizes.getD j 0 = z2 at *
      by_cases e1 : n1 = n2
      · subst e1
        by_cases e2 : z1 = z2
        · subst e2
          have nx' := nx rfl rfl
          clear nx no
          go_wp2_with fail
          go_region
          go_wp2
          go_roundw
          case rel => exact ⟨j + 1, by omega, by go_num, drew_on hw, nx'⟩
          case measure => simp [intOf]; omega
        · have hne : ((z1 : Int) == (z2 : Int)) = false := beq_eq_false_iff_ne.2 fun x => e2 (by omega)
          have hd := no (.inr e2)
          clear nx no
          go_wp2_with fail
          go_region
          go_wp2
          go_ret
          exact ⟨by first | rfl | (rw [hd]; rfl), ⟨hbel.os, hbel.tape, hbel.output, hbel.size, hbel.block⟩⟩
      · have hne : (n1 == n2) = false := beq_eq_false_iff_ne.2 e1
        have hd := no (.inl e1)
        clear nx no
        go_wp2_with fail
        go_region
        go_wp2
        go_ret
        exact ⟨by first | rfl | (rw [hd]; rfl), ⟨hbel.os, hbel.tape, hbel.output, hbel.size, hbel.block⟩⟩
    · obtain rfl : j = L := by omega
      have hnl : ¬ ((j : Int) < (j : Int)) := by omega
      have hd : oneA s t = true := by
        have e1 : s.names = t.names := list_same (hlE.out.trans hnB.out) fun q hq => (hsame q (by rw [← hlE.out]; exact hq)).1
        have e2 : s.sizes = t.sizes := list_same (hzA.out.symm.trans (hnB.out.trans htC.out)) fun q hq => (hsame q (by rw [hzA.out]; exact hq)).2
        rw [oneA, nf h1, nf h2, nf h3]
        simp [e1, e2]
      go_wp2
      go_ret
      exact ⟨by first | rfl | (rw [hd]; rfl), hbel⟩
end Go.Proofs.YtlghjjennhpjeaaGreatDoor

/-
  The document's together: run alone.
-/
namespace Go.Proofs.YtlghjjennhpjeaaGreatDoor
open Go.RowKit Go.Deep

def AllD (n : Nat) (sh : Nat → Shd) : Prop := ∀ i, i < n → oneA (sh i) (sh 0) = true
def DupD (n : Nat) (sh : Nat → Shd) : Prop := ∃ i j, j < i ∧ i < n ∧ (sh i).i = (sh j).i
/-- What the document finds wrong, but for the columns. -/
def TogD (n : Nat) (sh : Nat → Shd) (e : Nat) : Prop := (e = 10 ∧ ¬ AllD n sh) ∨ (e = 11 ∧ AllD n sh ∧ DupD n sh) ∨ (e = 12 ∧ AllD n sh ∧ ¬ DupD n sh ∧ (n = 0 ∨ n < (sh 0).k)) ∨ (e = 0 ∧ AllD n sh ∧ ¬ DupD n sh ∧ 0 < n ∧ (sh 0).k ≤ n)
set_option maxHeartbeats 4000000 in
set_option maxRecDepth 100000 in
theorem together_ref (n cap : Nat) (bo : Option Addr) (sh : Nat → Shd) (vN vS vC : Nat → Value) (w : World) (hn : n ≤ 1048576) (H : Sds w bo n sh vN vS vC) (hns : ∀ i, i < n → (sh i).names.length = (sh i).sizes.length) :
    Calls Tryz.prog 13 #[.slice bo n cap] w fun r w' => Below w.heap.size w w' ∧ ∃ e : Nat, r = .returned (.int .i64 (e : Int)) ∧ TogD n sh e := by
  go_enter Tryz.func13, Tryz.ntmps13
  go_wp2
  go_loopw [3] (fun vi wr => ∃ j : Nat, j ≤ n ∧ vi = .int .i64 (j : Int) ∧ Below w.heap.size w wr ∧ AllD j sh) (fun vi _ => n - (intOf vi).toNat)
  case atStart => exact ⟨0, by omega, rfl, Below.refl _ _, fun i hi => absurd hi (by omega)⟩
  case round =>
    obtain ⟨j, hj, rfl, hb, hall⟩ := hrel
    have Hr := H.below hb (Nat.le_refl _)
    by_cases hlt : j < n
    · have hlt' : (j : Int) < (n : Int) := by omega
      have h0n : (0 : Int) < (n : Int) := by omega
      obtain ⟨b, o, rfl, hbl, hcell⟩ := Hr.cells (by omega)
      have rj := hcell j hlt
      have r0 := hcell 0 (by omega)
      have tN := run_one _ (Hr.nm j hlt).1.one
      have tS := run_one _ (Hr.sz j hlt).1.one
      have tC := run_one _ (Hr.cl j hlt).one
      unfold shQ at rj r0
      obtain ⟨p0, p1, p2, p3, p4, p5, p6⟩ := range7 rj
      obtain ⟨q0, q1, q2, q3, q4, q5, q6⟩ := range7 r0
      simp only [Nat.zero_mul, Nat.add_zero] at q0 q1 q2 q3 q4 q5 q6
      have Hd := Hr.below (Below.refl wr.heap.size wr).drew (Nat.le_refl _)
      have k1 := alike_any (sh j) (sh 0) (vN j) (vS j) (vC j) (vN 0) (vS 0) (vC 0) _ (Hd.nm j hlt).1 (Hd.sz j hlt).1 (Hd.nm 0 (by omega)).1 (Hd.sz 0 (by omega)).1 (hns j hlt) (hns 0 (by omega)) (Hd.nm j hlt).2
      simp only [shQ] at k1
      clear Hd rj r0 hcell
      go_wp2_with fail
      rcases ho : oneA (sh j) (sh 0) with _ | _
      · rw [ho] at k1
        go_region_with (first | (go_at_call 35; (with_reducible refine k1.mono ?_); rintro r w2 ⟨rfl, hb2⟩))
        all_goals
          go_wp2
          go_ret
          exact ⟨hb.drew.trans (hb2.mono hb.size), 10, rfl, .inl ⟨rfl, fun hA => by have := hA j hlt; rw [ho] at this; cases this⟩⟩
      · rw [ho] at k1
        go_region_with (first | (go_at_call 35; (with_reducible refine k1.mono ?_); rintro r w2 ⟨rfl, hb2⟩))
        all_goals
          go_wp2
          go_roundw
          case rel => exact ⟨j + 1, by omega, by go_num, hb.drew.trans (hb2.mono hb.size), fun i hi => by
            by_cases e : i = j
            · rw [e]; exact ho
            · exact hall i (by omega)⟩
          case measure => simp [intOf]; omega
    · obtain rfl : j = n := by omega
      have hnl : ¬ ((j : Int) < (j : Int)) := by omega
      go_wp2
      go_loopw [5] (fun vt w2 => ∃ x : Nat, x ≤ j ∧ vt = .int .i64 (x : Int) ∧ Below w.heap.size w w2 ∧ ∀ i y, y < i → i < x → (sh i).i ≠ (sh y).i) (fun vt _ => j - (intOf vt).toNat)
      case atStart => exact ⟨0, by omega, rfl, hb, fun i y _ h => absurd h (by omega)⟩
      case round =>
        clear hb Hr
        obtain ⟨x, hx, rfl, hb, hdup⟩ := hrel
        by_cases hlt : x < j
        · have hltx : (x : Int) < (j : Int) := by omega
          go_wp2
          go_loopw [6] (fun vt w2 => ∃ y : Nat, y ≤ x ∧ vt = .int .i64 (y : Int) ∧ Below w.heap.size w w2 ∧ ∀ q, q < y → (sh x).i ≠ (sh q).i) (fun vt _ => x - (intOf vt).toNat)
          case atStart => exact ⟨0, by omega, rfl, hb, fun q h => absurd h (by omega)⟩
          case round =>
            clear hb
            obtain ⟨y, hy, rfl, hb, hne⟩ := hrel
            have Hr := H.below hb (Nat.le_refl _)
            by_cases hyx : y < x
            · have hyx' : (y : Int) < (x : Int) := by omega
              have hyj : (y : Int) < (j : Int) := by omega
              obtain ⟨b, o, rfl, hbl, hcell⟩ := Hr.cells (by omega)
              have c1 := hcell x hlt 2 _ rfl
              have c0 := hcell y (by omega) 2 _ rfl
              clear hcell
              rcases he : (((sh x).i : Int) == ((sh y).i : Int)) with _ | _
              · go_wp2_with fail
                go_region
                go_wp2
                go_roundw
                case rel => exact ⟨y + 1, by omega, by go_num, hb.drew, fun q hq => by
                  by_cases e : q = y
                  · rw [e]
                    intro h
                    rw [h] at he
                    simp at he
                  · exact hne q (by omega)⟩
                case measure => simp [intOf]; omega
              · go_wp2_with fail
                go_region
                go_wp2
                go_ret
                exact ⟨hb.drew, 11, rfl, .inr (.inl ⟨rfl, hall, x, y, hyx, hlt, by have := eq_of_beq he; omega⟩)⟩
            · obtain rfl : y = x := by omega
              have hnl2 : ¬ ((y : Int) < (y : Int)) := by omega
              go_wp2
              go_roundw
              case rel => exact ⟨y + 1, by omega, by go_num, hb, fun i q h1 h2 => by
                by_cases e : i = y
                · rw [e]; exact hne q (by omega)
                · exact hdup i q h1 (by omega)⟩
              case measure => simp [intOf]; omega
        · obtain rfl : x = j := by omega
          have hnl2 : ¬ ((x : Int) < (x : Int)) := by omega
          have Hr := H.below hb (Nat.le_refl _)
          have hnd : ¬ DupD x sh := fun ⟨i, q, h1, h2, e⟩ => hdup i q h1 h2 e
          rcases Nat.eq_zero_or_pos x with h0 | h0
          · subst h0
            go_wp2
            go_ret
            exact ⟨hb, 12, rfl, .inr (.inr (.inl ⟨rfl, hall, hnd, .inl rfl⟩))⟩
          · have he : ((x : Int) == 0) = false := by simp; omega
            have h0n : (0 : Int) < (x : Int) := by omega
            obtain ⟨b, o, rfl, hbl, hcell⟩ := Hr.cells h0
            have c0 := hcell 0 h0 0 _ rfl
            simp only [Nat.zero_mul, Nat.add_zero] at c0
            clear hcell
            by_cases hk : x < (sh 0).k
            · have hk' : (x : Int) < ((sh 0).k : Int) := by omega
              go_wp2
              go_ret
              exact ⟨hb, 12, rfl, .inr (.inr (.inl ⟨rfl, hall, hnd, .inr hk⟩))⟩
            · have hk' : ¬ ((x : Int) < ((sh 0).k : Int)) := by omega
              go_wp2
              go_ret
              exact ⟨hb, 0, rfl, .inr (.inr (.inr ⟨rfl, hall, hnd, h0, by omega⟩))⟩
end Go.Proofs.YtlghjjennhpjeaaGreatDoor

/-
  The document's elimination with exchange, in plain words: steps on rows, done to a column of bytes too.
-/
namespace Go.Proofs.YtlghjjennhpjeaaGreatDoor
namespace F
/-- A step: exchange, multiply, add. -/
structure St where
  kind : Nat
  a : Nat
  b : Nat
  z : F
def ap (s : St) (v : Nat → F) (i : Nat) : F :=
  if s.kind = 0 then (if i = s.a then v s.b else if i = s.b then v s.a else v i)
  else if s.kind = 1 then (if i = s.a then mu (v s.a) s.z else v i)
  else (if i = s.a then add (v s.a) (mu s.z (v s.b)) else v i)
def run : List St → (Nat → F) → Nat → F
  | [], v => v
  | s :: l, v => run l (ap s v)
theorem run_snoc (s : St) : ∀ (l : List St) (v : Nat → F), run (l ++ [s]) v = ap s (run l v)
  | [], _ => rfl
  | t :: l, v => by rw [List.cons_append, run, run_snoc s l, run]
def apM (s : St) (m : Nat → Nat → F) (i j : Nat) : F := ap s (fun r => m r j) i
structure Fine (k : Nat) (s : St) : Prop where
  a : s.a < k
  b : s.b < k
  z : s.kind = 1 → s.z ≠ 0
  ne : s.kind ≠ 0 → s.kind ≠ 1 → s.a ≠ s.b

theorem dot_ap (k : Nat) (s : St) (m : Nat → Nat → F) (x : Nat → F) (i : Nat) : dot k (apM s m i) x = ap s (fun r => dot k (m r) x) i := by
  unfold apM ap
  split
  · split
    · rfl
    · split <;> rfl
  · split
    · split
      · have : (fun j => mu (m s.a j) s.z) = scaled s.z (m s.a) := rfl
        rw [this, dot_scaled, mu_comm]
      · rfl
    · split
      · have : (fun j => add (m s.a j) (mu s.z (m s.b j))) = added s.z (m s.a) (m s.b) := by
          funext j
          rw [mu_comm]
          rfl
        rw [this, dot_added]
      · rfl
theorem ap_inj {k : Nat} {s : St} (h : Fine k s) (u v : Nat → F) : (∀ i, i < k → u i = v i) ↔ ∀ i, i < k → ap s u i = ap s v i := by
  constructor
  · intro e i hi
    unfold ap
    rw [e i hi, e s.a h.a, e s.b h.b]
  · intro e i hi
    have ea := e s.a h.a
    have eb := e s.b h.b
    have ei := e i hi
    unfold ap at ea eb ei
    by_cases h0 : s.kind = 0
    · simp only [if_pos h0] at ea eb ei
      simp only [if_true] at ea
      by_cases hia : i = s.a
      · subst hia
        by_cases hba : s.b = s.a
        · rw [← hba]; exact ea
        · simp only [if_neg hba, if_true] at eb; exact eb
      · by_cases hib : i = s.b
        · rw [hib]; exact ea
        · simp only [if_neg hia, if_neg hib] at ei; exact ei
    · simp only [if_neg h0] at ea eb ei
      by_cases h1 : s.kind = 1
      · simp only [if_pos h1] at ea eb ei
        simp only [if_true] at ea
        by_cases hia : i = s.a
        · rw [hia]
          rw [mu_comm, mu_comm (v s.a)] at ea
          exact mu_cancel (h.z h1) ea
        · simp only [if_neg hia] at ei; exact ei
      · simp only [if_neg h1] at ea eb ei
        have hab := h.ne h0 h1
        have hb : u s.b = v s.b := by simp only [if_neg (Ne.symm hab)] at eb; exact eb
        by_cases hia : i = s.a
        · rw [hia]
          simp only [if_true] at ea
          rw [hb] at ea
          have := congrArg (fun x => add x (mu s.z (v s.b))) ea
          simp only [add_assoc, add_self, add_zero] at this
          exact this
        · simp only [if_neg hia] at ei; exact ei

/-- The rows as they stand, the steps as they were. -/
structure Rs (k : Nat) (M : Nat → Nat → F) (m : Nat → Nat → F) (l : List St) : Prop where
  same : ∀ x y : Nat → F, (∀ i, i < k → dot k (M i) x = y i) ↔ ∀ i, i < k → dot k (m i) x = run l y i
  fine : ∀ s ∈ l, Fine k s
theorem rs_start (k : Nat) (M : Nat → Nat → F) : Rs k M M [] := ⟨fun _ _ => Iff.rfl, fun _ h => by cases h⟩
theorem Rs.step {k : Nat} {M m : Nat → Nat → F} {l : List St} (h : Rs k M m l) {s : St} (hs : Fine k s) : Rs k M (apM s m) (l ++ [s]) := by
  refine ⟨fun x y => (h.same x y).trans ?_, fun t ht => ?_⟩
  · rw [run_snoc]
    refine (ap_inj hs (fun r => dot k (m r) x) (run l y)).trans ?_
    exact forall_congr' fun i => forall_congr' fun hi => by rw [dot_ap]
  · rcases List.mem_append.1 ht with h1 | h1
    · exact h.fine t h1
    · simp at h1
      subst h1
      exact hs
/-- Nothing but 0 gives 0. -/
def Inj (k : Nat) (M : Nat → Nat → F) : Prop := ∀ x, (∀ i, i < k → dot k (M i) x = 0) → ∀ i, i < k → x i = 0
theorem ap_zero (s : St) (i : Nat) : ap s (fun _ => 0) i = 0 := by
  unfold ap
  split
  · split <;> (try split) <;> rfl
  · split
    · split
      · exact zero_mu _
      · rfl
    · split
      · rw [mu_zero, add_zero]
      · rfl
theorem run_zero : ∀ (l : List St) (i : Nat), run l (fun _ => 0) i = 0
  | [], _ => rfl
  | s :: l, i => by
    rw [run, show ap s (fun _ => 0) = fun _ => 0 from funext fun i => ap_zero s i]
    exact run_zero l i

def UnitTo (k c : Nat) (m : Nat → Nat → F) : Prop := ∀ i s, i < k → s < c → m i s = if s = i then 1 else 0
/-- Some row has something but 0 there. -/
theorem Rs.pivot {k c : Nat} {M m : Nat → Nat → F} {l : List St} (h : Rs k M m l) (hi : Inj k M) (hu : UnitTo k c m) (hc : c < k) : ∃ r, c ≤ r ∧ r < k ∧ m r c ≠ 0 := by
  refine Classical.byContradiction fun hno => ?_
  have hz : ∀ r, c ≤ r → r < k → m r c = 0 := fun r h1 h2 => Classical.byContradiction fun e => hno ⟨r, h1, h2, e⟩
  let x : Nat → F := fun j => if j = c then 1 else if j < c then m j c else 0
  have hx : ∀ i, i < k → dot k (m i) x = 0 := by
    intro i hik
    have split : dot k (m i) x = add (sum (List.range k) fun j => if j = c then m i c else 0) (sum (List.range k) fun j => if j < c then mu (m i j) (m j c) else 0) := by
      rw [← sum_add]
      refine sum_congr fun j hj => ?_
      by_cases e : j = c
      · subst e
        simp only [x, if_true, mu_one, if_neg (Nat.lt_irrefl j), add_zero]
      · by_cases e2 : j < c
        · simp only [x, if_neg e, if_pos e2, zero_add]
        · simp only [x, if_neg e, if_neg e2, mu_zero, add_zero]
    have s1 : (sum (List.range k) fun j => if j = c then m i c else 0) = m i c := by
      rw [sum_single List.nodup_range (t := c) (by simpa using hc) (fun j _ hj => if_neg hj)]
      exact if_pos rfl
    have s2 : (sum (List.range k) fun j => if j < c then mu (m i j) (m j c) else 0) = m i c := by
      by_cases hic : i < c
      · rw [sum_single List.nodup_range (t := i) (by simpa using hik) (fun j hj hne => ?_)]
        · rw [if_pos hic, hu i i hik hic, if_pos rfl, one_mu]
        · split
          · rename_i h2
            rw [hu i j hik h2, if_neg hne, zero_mu]
          · rfl
      · rw [hz i (by omega) hik]
        refine sum_zero _ fun j hj => ?_
        split
        · rename_i h2
          rw [hu i j hik h2, if_neg (by omega), zero_mu]
        · rfl
    rw [split, s1, s2, add_self]
  have h0 := (h.same x (fun _ => 0)).2 fun i hik => by rw [hx i hik, run_zero]
  have := hi x h0 c hc
  simp only [x, if_true] at this
  exact one_ne this

/-- Column c, rows below i done. -/
structure El (k : Nat) (M : Nat → Nat → F) (c i : Nat) (m : Nat → Nat → F) (l : List St) : Prop where
  rs : Rs k M m l
  left : UnitTo k c m
  one : m c c = 1
  cl : ∀ r, r < i → r < k → r ≠ c → m r c = 0
theorem el_start {k c r : Nat} {M m : Nat → Nat → F} {l : List St} (h : Rs k M m l) (hu : UnitTo k c m) (hc : c < k) (hcr : c ≤ r) (hr : r < k) (hne : m r c ≠ 0) :
    El k M c 0 (apM ⟨1, c, c, iv (m r c)⟩ (apM ⟨0, c, r, 0⟩ m)) (l ++ [⟨0, c, r, 0⟩] ++ [⟨1, c, c, iv (m r c)⟩]) := by
  have f1 : Fine k ⟨0, c, r, 0⟩ := ⟨hc, hr, fun e => (by cases e), fun e => absurd rfl e⟩
  have f2 : Fine k ⟨1, c, c, iv (m r c)⟩ := ⟨hc, hc, fun _ => iv_ne hne, fun _ e => absurd rfl e⟩
  refine ⟨(h.step f1).step f2, fun i s hi hs => ?_, ?_, fun r hr => absurd hr (by omega)⟩
  · have hcs : m c s = 0 := by rw [hu c s hc hs, if_neg (by omega)]
    have hrs : m r s = 0 := by rw [hu r s hr hs, if_neg (by omega)]
    by_cases hic : i = c
    · subst hic
      simp [apM, ap, hrs, zero_mu, show s ≠ i by omega]
    · by_cases hir : i = r
      · subst hir
        simp [apM, ap, hic, hcs, show s ≠ i by omega]
      · simp [apM, ap, hic, hir, hu i s hi hs]
  · simp [apM, ap, mu_iv hne]
theorem El.skip {k c i : Nat} {M m : Nat → Nat → F} {l : List St} (h : El k M c i m l) (hs : i = c ∨ m i c = 0) : El k M c (i + 1) m l :=
  ⟨h.rs, h.left, h.one, fun r h1 h2 h3 => by
    by_cases e : r = i
    · subst e
      exact hs.resolve_left h3
    · exact h.cl r (by omega) h2 h3⟩
theorem El.add {k c i : Nat} {M m : Nat → Nat → F} {l : List St} (h : El k M c i m l) (hc : c < k) (hi : i < k) (hic : i ≠ c) : El k M c (i + 1) (apM ⟨2, i, c, m i c⟩ m) (l ++ [⟨2, i, c, m i c⟩]) := by
  have f : Fine k ⟨2, i, c, m i c⟩ := ⟨hi, hc, fun e => (by cases e), fun _ _ => hic⟩
  refine ⟨h.rs.step f, fun r s hr hs => ?_, ?_, fun r h1 h2 h3 => ?_⟩
  · have hcs : m c s = 0 := by rw [h.left c s hc hs, if_neg (by omega)]
    by_cases e : r = i
    · subst e
      simp [apM, ap, hcs, mu_zero, add_zero, h.left r s hr hs]
    · simp [apM, ap, e, h.left r s hr hs]
  · simp [apM, ap, Ne.symm hic, h.one]
  · by_cases e : r = i
    · subst e
      simp [apM, ap, h.one, mu_one, add_self]
    · simp [apM, ap, e, h.cl r (by omega) h2 h3]
theorem El.done {k c : Nat} {M m : Nat → Nat → F} {l : List St} (h : El k M c k m l) (_ : c < k) : UnitTo k (c + 1) m := by
  intro i s hi hs
  by_cases e : s = c
  · subst e
    by_cases e2 : i = s
    · subst e2
      rw [if_pos rfl, h.one]
    · rw [if_neg (Ne.symm e2), h.cl i hi hi e2]
  · exact h.left i s hi (by omega)
/-- What the steps make of a column is what the rows make it of. -/
theorem Rs.told {k : Nat} {M m : Nat → Nat → F} {l : List St} (h : Rs k M m l) (hu : UnitTo k k m) {x y : Nat → F} (hx : ∀ i, i < k → dot k (M i) x = y i) : ∀ i, i < k → run l y i = x i := by
  intro i hi
  rw [← (h.same x y).1 hx i hi]
  exact dot_unit hi fun j hj => by rw [hu i j hi hj]
end F
end Go.Proofs.YtlghjjennhpjeaaGreatDoor

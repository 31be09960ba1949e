/-
  layout.Write beside goroutines that leave: the whole of it.
-/
import Derived.Test.YtkpcmfgeanlcnabDoorEnQ
namespace Go.Proofs.YtkpcmfgeanlcnabDoor
open Go.RowKit Go.Deep Go.Lf Go.Conc

section
variable {X : Nat → Prop} {Y : Nat → Option Obj} {D : Nat → World → Array Event → Prop} {Stop : Goroutine → World → Prop} {v : World} {cs : List Frame} {cfr : Frame}
theorem fold44 (T : Array Value) (Df : Nat) (st : LoopState) (x : Value) : ((lpR T Df st).params.zip #[x]).foldl (fun tmps (t, a) => tmps.setIfInBounds t a) (lpR T Df st).tmps = T.setIfInBounds 44 x := by
  simp [lpR]

set_option maxHeartbeats 8000000 in
set_option maxRecDepth 100000 in
theorem layEnd (hD : Dok X D) {lb sb nb Df l len cap c row : Nat} {M col : List UInt8} {T : Array Value} {ba : Option Addr} (hTW : TWr row lb T) (hc : 1 ≤ c) (hc2 : c ≤ 65536) (hlen : len ≤ 65536) (hM : M.length ≤ 2000000)
    (hlb : v.heap.size < lb) (h1 : lb < sb) (h2 : sb < nb) (h3 : nb < Df) (h4 : Df < l) (hO : Ours X Y l) (hOD : Ours X Y Df) (W : World) (hI : LW v lb sb nb Df l ba len cap c M col T .ready (nFr c len) W)
    (hnext : ∀ y v', OwnB v.heap.size v' y (M ++ framesTo c col (nFr c len) ++ [68, 79, 78, 69]) → Kept v v' → ∀ w, SimT X Y w v' → GoesI Tryd.prog D Stop (G (cfr.finish y) cs) w) :
    ReaR Tryd.prog X Y D Stop none [{ target := .collected Df, args := #[] }] 23 (cfr :: cs) [.endRangeFunc l, .inBlock 0, .code wRest] T W := by
  obtain ⟨i0, hi0, hz0, hz1, hz2⟩ := info_parts infoB8
  refine reaR_endRange hD hI.lp rfl rfl hO ?_
  change ReaR _ _ _ _ _ _ _ _ _ _ _ (W.putObj l (.loop (lpR T Df .exhausted)))
  have hI1 := hI.put (st' := .exhausted) (by omega) (by omega) (by omega) (by omega) (by omega)
  clear hI
  generalize W.putObj l (.loop (lpR T Df .exhausted)) = W1 at *
  obtain ⟨f, rfl⟩ := hTW
  rw [wRest_eq]
  refine reaR_inBlock hD (reaR_split hD (reaR_go goodF hD (by kernel_rfl) sfW fun R hR τ d => ?_))
  replace hI1 := hI1.tape τ d
  generalize ({ W1 with tape := τ, drawn := d } : World) = W2 at *
  obtain ⟨⟨y, hv, hO1⟩, _, _, _, hdf, hK⟩ := hI1
  have hLb : (M ++ framesTo c col (nFr c len)).length ≤ 10000000000 := by
    have h5 : (framesTo c col (nFr c len)).length ≤ nFr c len * (c + 8) := by
      have := LL_length [] c col (len := len) ((List.range (nFr c len)).attach.map fun x => ⟨x.1, (nFr_lt hc).1 (List.mem_range.1 x.2)⟩)
      rw [LL_all [] c col _ (nFr c len) (by simp [List.map_map, Function.comp_def])] at this
      simpa using this
    have h6 : nFr c len ≤ len + 1 := by
      unfold nFr
      have : (len + c - 1) / c ≤ (len * c + c) / c := Nat.div_le_div_right (by have : len * 1 ≤ len * c := Nat.mul_le_mul_left _ hc; omega)
      rw [← Nat.succ_mul, Nat.mul_div_cancel _ (by omega)] at this
      omega
    have h7 : nFr c len * (c + 8) ≤ 65537 * (65536 + 8) := Nat.mul_le_mul (by omega) (by omega)
    rw [List.length_append]
    omega
  generalize M ++ framesTo c col (nFr c len) = L at *
  have hc0 := hv.cell
  simp only [wO9, qw9]
  go_wp2_with (first | (at_builtin; refine Lib.wpList_append_own_string _ rfl _ _ 29 9 rfl v.heap.size 5 i0 Tryd.underlying29 Tryd.underlying9 hi0 hz0 hz1 hz2 _ _ _ rfl hO1 ⟨#[68, 79, 78, 69]⟩ rfl (by show _ + 4 ≤ maxLen; unfold maxLen; omega) (by show _ + 4 ≤ _; omega) hK.size ?_; intro v9 w9 hown9 hgrow9 _; have hO9 : OwnB v.heap.size w9 v9 (L ++ [68, 79, 78, 69]) := OwnB.more hown9 rfl; have hk9 := hO1.keeps hgrow9; have hK9 := hK.below (hO1.grown hgrow9 hK.size)))
  have hdf9 : w9.heap[Df]? = some (.deferred (some [])) := hk9.same _ _ hdf rfl
  refine reaR_ret hD Tryd.func23 hdf9 hOD (fun τ d => results_tmp (fn := Tryd.f23) (t := 4) rfl _ _ _) ?_
  exact hnext v9 _ (ownsRow_putObj hO9 _ hdf9 rfl) ⟨hK9.os, hK9.output, by rw [World.putObj_size]; exact hK9.size, fun b hb => (World.putObj_heap_other (by omega)).trans (hK9.block b hb)⟩

set_option maxHeartbeats 8000000 in
set_option maxRecDepth 100000 in
theorem layWriteI (hD : Dok X D) (k n i c : Nat) (hk : k ≤ 255) (hn : n ≤ 255) (hi : i ≤ 255) (hc : 1 ≤ c) (hc2 : c ≤ 65536) (vN vS : Value) (bc : Option Addr) (len capc : Nat) (col : List UInt8) (hcl : col.length = len) (hlen : len ≤ 65536) (gm capm ml : Nat) (man : List UInt8) (hml : man.length = ml) (hm8 : 8 ≤ ml) (hm : ml ≤ 1000000)
    (hcol : Lies v (.slice bc len capc) (u8V col)) (hman : Byt v gm 0 man) (hgm : gm < v.heap.size) (hT : Tab v)
    (hnext : ∀ y v', OwnB v.heap.size v' y (sealB ([67, 65, 73, 82, 78, 49] ++ ([UInt8.ofNat k, UInt8.ofNat n, UInt8.ofNat i, 0] ++ (leB 4 c ++ (leB 4 (ml - 8) ++ (leB 4 len ++ [0, 0]))))) ++ man ++ framesTo c col (nFr c len) ++ [68, 79, 78, 69]) → Kept v v' → ∀ w, SimT X Y w v' → GoesI Tryd.prog D Stop (G (cfr.finish y) cs) w) :
    ReaR Tryd.prog X Y D Stop none [] 23 (cfr :: cs) [.code wBody] (#[.agg #[.int .i64 (k : Int), .int .i64 (n : Int), .int .i64 (i : Int), .int .i64 (c : Int), vN, vS, .slice bc len capc], .slice (some ⟨gm, 0, none⟩) ml capm] ++ Array.replicate 51 undef) v := by
  obtain ⟨b, off, hba, hby⟩ : ∃ b off, (0 < len → bc = some ⟨b, off, none⟩) ∧ Byt v b off col := by
    obtain ⟨ba, cap', e, _, hh⟩ := hcol
    injection e with e1 e2 e3
    subst e1
    rcases Nat.eq_zero_or_pos len with h0 | h0
    · exact ⟨0, 0, fun h => by omega, fun j hj => by omega⟩
    · obtain ⟨b, off, e4, _⟩ := hh 0 _ (u8V_get (by omega))
      refine ⟨b, off, fun _ => e4, fun j hj => ?_⟩
      obtain ⟨b', off', e5, h5⟩ := hh j _ (u8V_get hj)
      rw [e4] at e5
      injection e5 with e5
      injection e5 with e6 e7
      subst e6 e7
      exact h5
  have hcapc : len ≤ capc := by
    obtain ⟨ba, cap', e, h, _⟩ := hcol
    injection e with e1 e2 e3
    rw [u8V_length] at h
    omega
  refine layW_pre hD k n i c hk hn hi hc hc2 vN vS bc len capc hlen gm capm ml man hml hm8 hm hman hgm hT fun T lb g4 cap4 V hTW hlb hlbV hL hO hrow hK => ?_
  obtain ⟨M, eM⟩ : ∃ M, sealB ([67, 65, 73, 82, 78, 49] ++ ([UInt8.ofNat k, UInt8.ofNat n, UInt8.ofNat i, 0] ++ (leB 4 c ++ (leB 4 (ml - 8) ++ (leB 4 len ++ [0, 0]))))) ++ man = M := ⟨_, rfl⟩
  have hMl : M.length ≤ 2000000 := by
    rw [← eM, List.length_append, sealB_length, hml]
    simp only [List.length_append, leB_length, List.length_cons, List.length_nil]
    omega
  rw [eM] at hnext hO
  clear eM
  rw [wC5_eq]
  refine reaR_split hD (reaR_region hD ?_)
  rw [wO5_size]
  simp only [List.range, List.range.loop]
  obtain ⟨f, rfl⟩ := hTW
  refine reaR_op goodF hD (.pointer (some ⟨v.heap.size, 6, none⟩)) (by simp only [wO5, qw5]; rfl) rfl (by kernel_rfl) (fun z _ => by go_simp) ?_
  walk_nrm
  refine reaR_op goodF hD (.slice bc len capc) (by simp only [wO5, qw5]; rfl) rfl (by kernel_rfl) (fun z hz => by have c6 := RowAt.cell (w := z) (show z.heap[v.heap.size]? = _ by rw [hz]; exact hrow) (i := 6) rfl; go_simp) ?_
  walk_nrm
  refine reaR_op goodF hD (.pointer (some ⟨v.heap.size, 3, none⟩)) (by simp only [wO5, qw5]; rfl) rfl (by kernel_rfl) (fun z _ => by go_simp) ?_
  walk_nrm
  refine reaR_op goodF hD (.int .i64 (c : Int)) (by simp only [wO5, qw5]; rfl) rfl (by kernel_rfl) (fun z hz => by have c3 := RowAt.cell (w := z) (show z.heap[v.heap.size]? = _ by rw [hz]; exact hrow) (i := 3) rfl; go_simp) ?_
  walk_nrm
  refine reaR_call hD (by simp only [wO5, qw5]; rfl) rfl (by rfl) Tryd.func38 (by kernel_rfl) (c := hBody) (by kernel_rfl) (vs := #[.slice bc len capc, .int .i64 (c : Int)]) (n := 7) (by simp [Act.eval]) (by kernel_rfl) ?_
  refine chunkI hD bc len capc c hc ?_
  rw [Dn_finish (by simp only [wO5, qw5]; rfl)]
  show ReaR _ _ _ _ _ _ _ _ _ _ _ _
  walk_nrm
  have hL2 := (hL.alloc (.cells #[.slice bc len capc] 29)).alloc (.cells #[.int .i64 (c : Int)] 3)
  have hO2 := (hO.alloc (.cells #[.slice bc len capc] 29)).alloc (.cells #[.int .i64 (c : Int)] 3)
  have hS2 := (Boxed.new V 29 (.slice bc len capc)).alloc (.cells #[.int .i64 (c : Int)] 3)
  have hN2 := Boxed.new (V.alloc (.cells #[.slice bc len capc] 29)) 3 (.int .i64 (c : Int))
  have hK2 : Kept v ((V.alloc (.cells #[.slice bc len capc] 29)).alloc (.cells #[.int .i64 (c : Int)] 3)) := hK.below (((Below.refl v.heap.size V).alloc hK.size _).alloc (by rw [World.size_alloc]; have := hK.size; omega) _)
  have hs2 : ((V.alloc (.cells #[.slice bc len capc] 29)).alloc (.cells #[.int .i64 (c : Int)] 3)).heap.size = V.heap.size + 2 := by simp
  rw [World.size_alloc] at hN2
  generalize (V.alloc (.cells #[.slice bc len capc] 29)).alloc (.cells #[.int .i64 (c : Int)] 3) = V2 at *
  refine reaR_endReg hD (reaR_block hD (reaR_range hD (gf := 64) (lb := #[.pointer (some ⟨V.heap.size, 0, none⟩), .pointer (some ⟨V.heap.size + 1, 0, none⟩)]) (fun fr h => by simp only [Frame.eval, h]; rfl) Tryd.func64 (by kernel_rfl) (c := kBody) (by kernel_rfl) fun hOD hOl => ?_))
  have en : Tryd.f64.ntmps - (1 + (#[.pointer (some ⟨V.heap.size, 0, none⟩), .pointer (some ⟨V.heap.size + 1, 0, none⟩)] : Array Value).size) = 28 := by rw [Tryd.ntmps64]; rfl
  rw [en]
  refine chunk1_start hD _ _ _ fun T1 hT1 => ?_
  have hI0 : ∀ T', LW v lb V.heap.size (V.heap.size + 1) V2.heap.size (V2.heap.size + 1) bc len capc c M col T' .ready 0 ((V2.alloc (.deferred (some []))).alloc (.loop (lpR T' V2.heap.size .ready))) := fun T' => by
    refine ⟨⟨_, (hL2.alloc _).alloc _, ?_⟩, (hS2.alloc _).alloc _, (hN2.alloc _).alloc _, ?_, ?_, hK2.below (((Below.refl v.heap.size V2).alloc hK2.size _).alloc (by rw [World.size_alloc]; have := hK2.size; omega) _)⟩
    · have := (hO2.alloc (.deferred (some []))).alloc (.loop (lpR T' V2.heap.size .ready))
      simpa [framesTo] using this
    · have := World.alloc_heap_new (V2.alloc (.deferred (some []))) (.loop (lpR T' V2.heap.size .ready))
      rwa [World.size_alloc] at this
    · exact (Below.heap_alloc _ _ _ (by simp)).trans (World.alloc_heap_new V2 _)
  refine chunk1I hD (V2.heap.size + 1) V.heap.size (V.heap.size + 1) b off len capc c hc hc2 (by omega) hcapc bc hba (lpR _ V2.heap.size .ready) rfl hOl (LW v lb V.heap.size (V.heap.size + 1) V2.heap.size (V2.heap.size + 1) bc len capc c M col _ .ready) (fun j W h => ⟨h.s, h.n, h.lp⟩) (fun j W τ d h => h.tape τ d) (fun j W cfr cs hj hI hnx => ?_) (fun W hI => ?_) (nFr c len) 0 T1 _ (by omega) (by rw [Nat.zero_mul]; exact hT1) (hI0 _)
  · rw [fold44]
    exact layRound hD (twr_mk rfl) hc hc2 hlen hcl hMl hT hby hlb (by omega) (by omega) (by omega) (by omega) hOl j W hj hI hnx
  · rw [Dn_finish_range]
    exact layEnd hD (twr_mk rfl) hc hc2 hlen hMl hlb (by omega) (by omega) (by omega) (by omega) hOl hOD W hI hnext
end
end Go.Proofs.YtkpcmfgeanlcnabDoor

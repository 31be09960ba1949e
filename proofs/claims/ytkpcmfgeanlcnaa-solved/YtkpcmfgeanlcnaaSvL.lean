/-
  The statement up to its call of Rebuild: run alone.
-/
import Derived.Test.YtkpcmfgeanlcnaaSvK
import Derived.Test.YtkpcmfgeanlcnaaSvA
namespace Go.Proofs.Ytkpcmfgeanlcnaa
open Go.RowKit Go.Deep Go.Lf Go.Conc

def cFst7 : Code → Code | .seq x _ => x | c => c
def cSnd7 : Code → Code | .seq _ y => y | c => c
noncomputable def body7 : Code := Try.f7.body.getD .skip
noncomputable def c20 : Code := cSnd7 (cSnd7 (cSnd7 (cSnd7 (cSnd7 (cSnd7 (cSnd7 (cSnd7 body7)))))))
theorem sf7 : ∃ fn, Try.prog.funcs[7]? = some fn := ⟨_, Try.func7⟩

set_option maxHeartbeats 4000000 in
set_option maxRecDepth 100000 in
theorem solved_pre {Y : Nat → Option Obj} {Φ : Goroutine → World → Prop} (vr vo : Value) (k n s : Int) (zr zo : List Int) (hk : In64 k) (hn : In64 n) (hs : In64 s) (w0 : World) (hr : Ints w0 vr zr) (ho : Ints w0 vo zo) (hlr : zr.length < 9223372036854775807) (hlo : zo.length < 9223372036854775807)
    (hnext : ∀ (K N L p Rb bc cap : Nat) (yv : Nat → Nat → Nat) (q : CL) (bd : Nat → Nat) (T : Array Value) (w : World), TSol p Rb N L bc K cap T → K ≤ cap → SolF w0 K N L yv p Rb bc q bd w → Rea Try.prog Y Φ 7 [] [.code c20] ⟨T, []⟩ w) :
    Rea Try.prog Y Φ 7 [] [.code body7] ⟨#[vr, .int .i64 k, .int .i64 n, .int .i64 s, vo] ++ Array.replicate 187 undef, []⟩ w0 := by
  unfold body7
  simp only [Try.f7, Option.getD_some, Array.replicate_succ, Array.replicate_zero, List.push_toArray, List.append_toArray, List.nil_append, List.cons_append]
  have hN := nOf_le n
  have hK := kOf_le k n
  have c1 := params_any k n hk hn
  have hlL := pickN_lt s (show 0 < 5 by omega)
  have c5 := pick_any s 5 5 rfl hs.1 hs.2 (by omega) (by omega)
  generalize nOf n = N at *
  generalize kOf k n = K at *
  generalize pickN s 5 = L at *
  refine reach_go goodF (by kernel_rfl) rfl sf7 fun R hR => ?_
  go_wp2
  refine reach_go goodF (by kernel_rfl) rfl sf7 fun R hR => ?_
  unfold prm at c1
  go_wp2_with (first | (go_at_call 14; (with_reducible refine (c1 _).mono ?_); rintro e w1 ⟨rfl, hb1⟩))
  have pp : (w1.alloc (.cells #[.int .i64 (K : Int), .int .i64 (N : Int), .int .i64 (1 : Int)] 34)).rowIs w1.heap.size 34 3 (fun j => if j = 0 then .int .i64 (K : Int) else if j = 1 then .int .i64 (N : Int) else .int .i64 1) :=
    World.rowIs_alloc w1 #[.int .i64 (K : Int), .int .i64 (N : Int), .int .i64 (1 : Int)] 34 _ (fun i hi => by
      have : i = 0 ∨ i = 1 ∨ i = 2 := by simp at hi; omega
      rcases this with rfl | rfl | rfl <;> rfl)
  have hb2 := hb1.alloc hb1.size (.cells #[.int .i64 (K : Int), .int .i64 (N : Int), .int .i64 (1 : Int)] 34)
  have hp0 : w0.heap.size ≤ w1.heap.size := hb1.size
  generalize w1.heap.size = p at *
  generalize w1.alloc (.cells #[.int .i64 (K : Int), .int .i64 (N : Int), .int .i64 (1 : Int)] 34) = w2 at *
  have a0 := pp.cell (i := 0) (by omega)
  have a1 := pp.cell (i := 1) (by omega)
  simp only [if_true, Nat.one_ne_zero, if_false] at a0 a1
  have c2 := rowsFace_yes K N hK.1 hK.2 (by omega)
  refine reach_go goodF (by kernel_rfl) rfl sf7 fun R hR => ?_
  go_wp2_with (first | (go_at_call 15; (with_reducible refine (c2 _).mono ?_); rintro e w3 ⟨rfl, hrows⟩))
  have pl := pp.lt
  have pp3 := pp.of_block (hrows.below.block p pl)
  have hb3 : Below w0.heap.size w0 w3 := hb2.trans (hrows.below.mono (by omega))
  have R0 : w0.heap.size ≤ w2.heap.size := hb2.size
  have RN := hrows.size
  have hrow2 : w3.rowIs w2.heap.size 41 N (fun i => .slice (some ⟨w2.heap.size + 1 + i, 0, none⟩) K K) := hrows.head.congr fun i hi => by unfold headV; rw [if_pos hi]
  have hrow3 : ∀ i, i < N → w3.rowIs (w2.heap.size + 1 + i) 5 K (fun j => .int .u8 ((rowV K i j : Nat) : Int)) := hrows.rows
  have hRlt : w2.heap.size + N < w3.heap.size := by omega
  generalize w2.heap.size = Rb at *
  clear hrows pp a0 a1 c1 c2 hb1
  have a0 := pp3.cell (i := 0) (by omega)
  have a1 := pp3.cell (i := 1) (by omega)
  simp only [if_true, Nat.one_ne_zero, if_false] at a0 a1
  refine reach_go goodF (by kernel_rfl) rfl sf7 fun R hR => ?_
  go_wp2
  have c4 := chosen_any N vo zo (by omega) (by omega) w3 (ho.below hb3) hlo
  refine reach_go goodF (by kernel_rfl) rfl sf7 fun R hR => ?_
  go_wp2_with (first | (go_at_call 16; (with_reducible refine c4.mono ?_); rintro e w4 ⟨vl, xs, rfl, hxs, hl4, hb4⟩))
  obtain ⟨gl, cl, rfl, hgl1, hgl2⟩ := hl4.form (by omega)
  have pp4 := pp3.of_block (hb4.block p pp3.lt)
  have hb5 : Below w0.heap.size w0 w4 := hb3.trans (hb4.mono hb3.size)
  have hrow4 := hrow2.of_block (hb4.block _ hrow2.lt)
  have hrow5 : ∀ i, i < N → w4.rowIs (Rb + 1 + i) 5 K (fun j => .int .u8 ((rowV K i j : Nat) : Int)) := fun i hi => (hrow3 i hi).of_block (hb4.block _ (hrow3 i hi).lt)
  have hs34 := hb4.size
  clear hrow2 hrow3 a0 a1 pp3 c4
  refine reach_go goodF (by kernel_rfl) rfl sf7 fun R hR => ?_
  go_wp2_with (first | (go_at_call 17; (with_reducible refine (c5 _).mono ?_); rintro e w' ⟨rfl, hw'⟩; obtain rfl := hw'.symm))
  refine reach_go goodF (by kernel_rfl) rfl sf7 fun R hR => ?_
  go_wp2
  have a0 := pp4.cell (i := 0) (by omega)
  simp only [if_true] at a0
  have hl5 : ∀ i, i < N → w4.cell? ⟨gl, i, none⟩ = some (.int .i64 ((xs.getD i 0 : Nat) : Int)) := fun i hi => by
    rw [hl4.cellAt i (by omega)]
    exact natI_get xs i (by rw [hxs.len]; exact hi)
  have hr4 := hr.below hb5
  obtain ⟨bo, capr, rfl, hop⟩ := hr4.open
  obtain ⟨i0, hi0, hz0, hz1, hz2⟩ := info_parts Try.infoC
  obtain ⟨i5, hi5, hy0, hy1, hy2⟩ := info_parts Try.infoB
  refine reach_go goodF (by kernel_rfl) rfl sf7 fun R hR => ?_
  go_wp2
  go_loopw [16, 17] (fun vc vi wr => ∃ i : Nat, i ≤ K ∧ vi = .int .i64 (i : Int) ∧ ∃ D, Lay w4 zr xs L i vc D wr) (fun _ i _ => K - (intOf i).toNat)
  case atStart => exact ⟨0, by omega, rfl, fun _ => undef, lay_start w4 zr xs L _⟩
  case round =>
    obtain ⟨i, hi, rfl, D, hLa⟩ := hrel
    have hbw := hLa.below
    have q0 : wr.cell? ⟨p, 0, none⟩ = some (.int .i64 (K : Int)) := (hbw.cell (p := ⟨p, 0, none⟩) pp4.lt).trans a0
    by_cases hlt : i < K
    · have hlt' : (i : Int) < (K : Int) := by omega
      have q1 : wr.cell? ⟨gl, i, none⟩ = some (.int .i64 ((xs.getD i 0 : Nat) : Int)) := (hbw.cell (p := ⟨gl, i, none⟩) hgl2).trans (hl5 i (by omega))
      have hiN : (i : Int) < (N : Int) := by omega
      have hM : w4.heap.size ≤ wr.heap.size := hbw.size
      have hL0 : Lay2 w4 zr xs L i wr.heap.size 0 u16 D (.slice none 0 0) (wr.alloc (.cells #[.int .i64 ((xs.getD i 0 : Nat) : Int), .slice none 0 0] 43)) := by
        have hb := (Below.refl wr.heap.size wr).alloc (Nat.le_refl _) (.cells #[.int .i64 ((xs.getD i 0 : Nat) : Int), .slice none 0 0] 43)
        refine ⟨hLa.keep hM (fun g hg => (hLa.cols.lt g hg).2) (fun j hj g hg => ((hLa.data j hj).lt g hg).2) hb, ?_, World.ownsRow_nil _ _ _ _, fun j hj g hg => ((hLa.data j hj).lt g hg).2, fun g hg => (hLa.cols.lt g hg).2, hM, by simp⟩
        exact World.rowIs_alloc wr #[.int .i64 ((xs.getD i 0 : Nat) : Int), .slice none 0 0] 43 _ (fun j hj => by
          have : j = 0 ∨ j = 1 := by simp at hj; omega
          rcases this with rfl | rfl <;> rfl)
      generalize hxi : xs.getD i 0 = xi at q1
      rw [hxi] at hL0
      go_wp2
      generalize hW : wr.alloc (.cells #[.int .i64 ((xi : Nat) : Int), .slice none 0 0] 43) = W1 at hL0 ⊢
      generalize wr.heap.size = M at hL0 ⊢
      clear hW q0 q1
      go_loopw [19] (fun vm wq => ∃ m : Nat, m ≤ L ∧ vm = .int .i64 (m : Int) ∧ ∃ dv, Lay2 w4 zr xs L i M m u16 D dv wq) (fun m _ => L - (intOf m).toNat)
      case atStart => exact ⟨0, by omega, rfl, _, hL0⟩
      case round =>
        clear hL0
        obtain ⟨m, hm, rfl, dv, hL2⟩ := hrel
        by_cases hml : m < L
        · have hml' : (m : Int) < (L : Int) := by omega
          have hbq := hL2.lay.below
          have e1 := hL2.var.cell (i := 1) (by omega)
          simp only [Nat.one_ne_zero, if_false] at e1
          have hLM := hL2.lt
          -- the step, once the byte is known
          have fin : ∀ z : Int, rb zr L i m = byt z → IntKind.u8.wrap z = ((rb zr L i m : Nat) : Int) := fun z hz => by rw [hz]; exact byt_wrap z
          by_cases hz : zr.length = 0
          · have hz' : ¬ ((0 : Int) < (zr.length : Int)) := by omega
            have hrb : IntKind.u8.wrap 0 = ((rb zr L i m : Nat) : Int) := fin 0 (by unfold rb; rw [if_pos hz])
            go_wp2_with (at_builtin; refine wpList_append_own _ rfl _ _ 41 rfl (M + 1) 5 i5 (.int .u8 0) 1 1 Try.underlying41 hi5 hy0 hy1 hy2 rfl (by decide) _ _ _ rfl (hL2.own.alloc _) ⟨wr.heap.size, 0, none⟩ 1 1 [.int .u8 ((rb zr L i m : Nat) : Int)] rfl rfl (cell_one_new _ _ _) (one_u8 _) (by unfold maxLen; omega) (by omega) (by simp; omega) ?_; intro v' w1 hown' hgrow _; obtain ⟨gv, cv, rfl, _, _⟩ := hown'.form (by omega); obtain ⟨hL3, f1, f2⟩ := hL2.more ((Below.refl wr.heap.size wr).alloc (Nat.le_refl _) _) hgrow hown')
            have hL4 := hL3
            go_roundw
            case rel => exact ⟨m + 1, by omega, by go_num, _, hL4⟩
            case measure => simp [intOf]; omega
          · obtain ⟨b, off, rfl, hb, hcell⟩ := hop (by omega)
            have hz' : (0 : Int) < (zr.length : Int) := by omega
            have hmod := Nat.mod_lt (i * L + m) (show 0 < zr.length by omega)
            have em : ((i : Int) * (L : Int) + (m : Int)) % (zr.length : Int) = (((i * L + m) % zr.length : Nat) : Int) := rfl
            have hrb : IntKind.u8.wrap (zr.getD ((i * L + m) % zr.length) 0) = ((rb zr L i m : Nat) : Int) := fin _ (by unfold rb; rw [if_neg hz])
            have hzj : zr[(i * L + m) % zr.length]? = some (zr.getD ((i * L + m) % zr.length) 0) := by rw [List.getD_eq_getElem?_getD, List.getElem?_eq_getElem hmod]; rfl
            have hc0 := hcell _ _ hzj
            rw [← hbq.cell (p := ⟨b, off + (i * L + m) % zr.length, none⟩) hb] at hc0
            have hb1 : i * L ≤ 60 := Nat.le_trans (Nat.mul_le_mul (show i ≤ 12 by omega) (show L ≤ 5 by omega)) (by omega)
            generalize (i * L + m) % zr.length = j at *
            generalize zr.getD j 0 = z at *
            have hiL : (i : Int) * (L : Int) ≤ 60 := by
              have h60 : ((i * L : Nat) : Int) ≤ 60 := by omega
              rwa [Int.natCast_mul] at h60
            have hiL0 : 0 ≤ (i : Int) * (L : Int) := Int.mul_nonneg (by omega) (by omega)
            go_wp2_with (at_builtin; refine wpList_append_own _ rfl _ _ 41 rfl (M + 1) 5 i5 (.int .u8 0) 1 1 Try.underlying41 hi5 hy0 hy1 hy2 rfl (by decide) _ _ _ rfl (hL2.own.alloc _) ⟨wr.heap.size, 0, none⟩ 1 1 [.int .u8 ((rb zr L i m : Nat) : Int)] rfl rfl (cell_one_new _ _ _) (one_u8 _) (by unfold maxLen; omega) (by omega) (by simp; omega) ?_; intro v' w1 hown' hgrow _; obtain ⟨gv, cv, rfl, _, _⟩ := hown'.form (by omega); obtain ⟨hL3, f1, f2⟩ := hL2.more ((Below.refl wr.heap.size wr).alloc (Nat.le_refl _) _) hgrow hown')
            have hL4 := hL3
            go_roundw
            case rel => exact ⟨m + 1, by omega, by go_num, _, hL4⟩
            case measure => simp [intOf]; omega
        · obtain rfl : m = L := by omega
          have hnl : ¬ ((m : Int) < (m : Int)) := by omega
          obtain ⟨ad, cd, rfl⟩ : ∃ ad cd, dv = .slice ad m cd := by
            rcases hL2.own.2 with ⟨h1, h2⟩ | ⟨g, cap, cur, h1, _⟩
            · exact ⟨none, 0, by rw [h2]; exact h1⟩
            · exact ⟨_, _, h1⟩
          have e0 := hL2.var.cell (i := 0) (by omega)
          have e1 := hL2.var.cell (i := 1) (by omega)
          simp only [Nat.one_ne_zero, if_false, if_true] at e0 e1
          rw [hxi] at e0
          have hLM := hL2.lt
          have hbs := hL2.base
          have hone : ∀ u ∈ [Value.int .i64 ((xi : Nat) : Int), Value.slice ad m cd], u.oneCell' = true := by
            intro u hu
            simp at hu
            rcases hu with rfl | rfl <;> rfl
          go_wp2_with (at_builtin; refine wpList_append_own _ rfl _ _ 28 rfl w4.heap.size 43 i0 (.agg #[.int .i64 0, .slice none 0 0]) 2 32 Try.underlying28 hi0 hz0 hz1 hz2 rfl (by decide) _ _ _ rfl (hL2.lay.cols.alloc _) ⟨wr.heap.size, 0, none⟩ 1 1 [.int .i64 ((xi : Nat) : Int), .slice ad m cd] rfl rfl (cell_two_new _ _ _ _) hone (by unfold maxLen; omega) (by omega) (by simp; omega) ?_; intro v' w1 hown' hgrow _)
          have hL3 := hL2.col (v' := v') ((Below.refl wr.heap.size wr).alloc (Nat.le_refl _) _) hgrow (by rw [hxi]; exact hown')
          clear hL2 hown' hgrow
          go_wp2
          go_roundw
          case rel => exact ⟨i + 1, by omega, by go_num, _, hL3⟩
          case measure => simp [intOf]; omega
    · obtain rfl : i = K := by omega
      have hnl : ¬ ((i : Int) < (i : Int)) := by omega
      obtain ⟨bc, capc, q, bd, rfl, hcap, hq1, hq2, hq3, hq4⟩ := hLa.cl (by omega)
      have hget : ∀ j, j < i → xs[j]? = some (xs.getD j 0) := fun j hj => by rw [List.getD_eq_getElem?_getD, List.getElem?_eq_getElem (by rw [hxs.len]; omega)]; rfl
      have hSF : SolF w0 i N L (rb zr L) p Rb bc q bd wr := by
        have st : ∀ {b o : Nat} {v : Value}, w4.cell? ⟨b, o, none⟩ = some v → wr.cell? ⟨b, o, none⟩ = some v := fun {b o v} hc => (hbw.cell (p := ⟨b, o, none⟩) (cell_lt hc)).trans hc
        exact ⟨⟨hK.1, hK.2, hN.2, hlL⟩, hq1, st (pp4.cell (i := 0) (by omega)), st (pp4.cell (i := 1) (by omega)), fun j hj => st (hrow4.cell hj), fun j m hj hm => st ((hrow5 j hj).cell hm), hq3,
          fun j hj => by rw [hq2]; exact hxs.lt j _ (hget j hj), fun a b ha hb hne => by rw [hq2, hq2]; exact fun e => hne (hxs.inj a b _ (hget a ha) (by rw [e]; exact hget b hb)), hq4, rb_lt zr L, hb5.trans (hbw.mono hb5.size)⟩
      go_wp2
      exact hnext i N L p Rb bc capc _ q bd _ wr (tsol_mk rfl) hcap hSF
end Go.Proofs.Ytkpcmfgeanlcnaa

/-
  The statement behind Rebuild: what it tells, mixed by the rows, are the columns that were given: run alone.
-/
import Derived.Test.YtkpcmfgeanlcnaaSvM
import Derived.BigQuiet
namespace Go.Proofs.Ytkpcmfgeanlcnaa
open Go.RowKit Go.Deep Go.Lf Go.Conc

/-- Alike but for the tape. -/
def Alk (a b : World) : Prop := a.heap = b.heap ∧ a.os = b.os ∧ a.output = b.output
/-- The byte that a row makes of the data. -/
def mixN (K : Nat) (r x : Nat → Nat) : Nat → Nat
  | 0 => 0
  | j + 1 => mixN K r x j ^^^ mul (r j) (x j)
theorem mixN_lt (K : Nat) (r x : Nat → Nat) (hr : ∀ j, r j < 256) : ∀ j, mixN K r x j < 256
  | 0 => by simp [mixN]
  | j + 1 => xor_lt (mixN_lt K r x hr j) (mul_lt (hr j))

structure SufF (K N L : Nat) (yv : Nat → Nat → Nat) (p Rb bc : Nat) (q : CL) (bd : Nat → Nat) (C : Nat) (dN : Nat → Nat) (xv : Nat → Nat → Nat) (v : World) : Prop where
  num : 1 ≤ K ∧ K ≤ N ∧ N ≤ 12 ∧ L < 5
  par0 : v.cell? ⟨p, 0, none⟩ = some (.int .i64 (K : Int))
  head : ∀ i, i < N → v.cell? ⟨Rb, i, none⟩ = some (.slice (some ⟨Rb + 1 + i, 0, none⟩) K K)
  rows : ∀ i j, i < N → j < K → v.cell? ⟨Rb + 1 + i, j, none⟩ = some (.int .u8 ((rowV K i j : Nat) : Int))
  c0 : ∀ i, i < K → v.cell? ⟨bc, i * 2, none⟩ = some (.int .i64 ((q.ix i : Nat) : Int))
  c1 : ∀ i, i < K → v.cell? ⟨bc, i * 2 + 1, none⟩ = some (.slice (q.db i) L (q.dc i))
  ixN : ∀ i, i < K → q.ix i < N
  db : ∀ i, i < K → 0 < L → q.db i = some ⟨bd i, 0, none⟩
  data : ∀ i m, i < K → m < L → v.cell? ⟨bd i, m, none⟩ = some (.int .u8 ((yv i m : Nat) : Int))
  yl : ∀ i m, yv i m < 256
  ans : ∀ t, t < K → v.cell? ⟨C, t, none⟩ = some (.slice (some ⟨dN t, 0, none⟩) L L)
  xs : ∀ t m, t < K → m < L → v.cell? ⟨dN t, m, none⟩ = some (.int .u8 ((xv t m : Nat) : Int))
  xl : ∀ t m, xv t m < 256
  mix : ∀ i m, i < K → m < L → mixN K (rowV K (q.ix i)) (fun j => xv j m) K = yv i m
theorem SufF.heap {K N L : Nat} {yv : Nat → Nat → Nat} {p Rb bc : Nat} {q : CL} {bd : Nat → Nat} {C : Nat} {dN : Nat → Nat} {xv : Nat → Nat → Nat} {v v' : World} (h : SufF K N L yv p Rb bc q bd C dN xv v) (e : v'.heap = v.heap) : SufF K N L yv p Rb bc q bd C dN xv v' := by
  have st : ∀ a, v'.cell? a = v.cell? a := fun a => by simp only [World.cell?, e]
  exact ⟨h.num, (st _).trans h.par0, fun i hi => (st _).trans (h.head i hi), fun i j hi hj => (st _).trans (h.rows i j hi hj), fun i hi => (st _).trans (h.c0 i hi), fun i hi => (st _).trans (h.c1 i hi), h.ixN, h.db, fun i m hi hm => (st _).trans (h.data i m hi hm), h.yl, fun t ht => (st _).trans (h.ans t ht), fun t m ht hm => (st _).trans (h.xs t m ht hm), h.xl, h.mix⟩

set_option maxRecDepth 100000 in
def TSuf (p Rb N L bc K cap C : Nat) (T : Array Value) : Prop := ∃ f : Nat → Value, T = #[f 0, f 1, f 2, f 3, f 4, f 5, f 6, f 7, f 8, f 9, f 10, .pointer (some ⟨p, 0, none⟩), .slice (some ⟨Rb, 0, none⟩) N N, f 13, f 14, .int .i64 (L : Int), .slice (some ⟨bc, 0, none⟩) K cap, f 17, f 18, f 19, f 20, .slice (some ⟨C, 0, none⟩) K K, .int .i64 0, f 23, f 24, f 25, f 26, f 27, f 28, f 29, f 30, f 31, f 32, f 33, f 34, f 35, f 36, f 37, f 38, f 39, f 40, f 41, f 42, f 43, f 44, f 45, f 46, f 47, f 48, f 49, f 50, f 51, f 52, f 53, f 54, f 55, f 56, f 57, f 58, f 59, f 60, f 61, f 62, f 63, f 64, f 65, f 66, f 67, f 68, f 69, f 70, f 71, f 72, f 73, f 74, f 75, f 76, f 77, f 78, f 79, f 80, f 81, f 82, f 83, f 84, f 85, f 86, f 87, f 88, f 89, f 90, f 91, f 92, f 93, f 94, f 95, f 96, f 97, f 98, f 99, f 100, f 101, f 102, f 103, f 104, f 105, f 106, f 107, f 108, f 109, f 110, f 111, f 112, f 113, f 114, f 115, f 116, f 117, f 118, f 119, f 120, f 121, f 122, f 123, f 124, f 125, f 126, f 127, f 128, f 129, f 130, f 131, f 132, f 133, f 134, f 135, f 136, f 137, f 138, f 139, f 140, f 141, f 142, f 143, f 144, f 145, f 146, f 147, f 148, f 149, f 150, f 151, f 152, f 153, f 154, f 155, f 156, f 157, f 158, f 159, f 160, f 161, f 162, f 163, f 164, f 165, f 166, f 167, f 168, f 169, f 170, f 171, f 172, f 173, f 174, f 175, f 176, f 177, f 178, f 179, f 180, f 181, f 182, f 183, f 184, f 185, f 186, f 187, f 188, f 189, f 190, f 191]

set_option maxRecDepth 100000 in
theorem tsuf_mk {p Rb N L bc K cap C : Nat} {T : Array Value} (h : T = #[T.getD 0 undef, T.getD 1 undef, T.getD 2 undef, T.getD 3 undef, T.getD 4 undef, T.getD 5 undef, T.getD 6 undef, T.getD 7 undef, T.getD 8 undef, T.getD 9 undef, T.getD 10 undef, .pointer (some ⟨p, 0, none⟩), .slice (some ⟨Rb, 0, none⟩) N N, T.getD 13 undef, T.getD 14 undef, .int .i64 (L : Int), .slice (some ⟨bc, 0, none⟩) K cap, T.getD 17 undef, T.getD 18 undef, T.getD 19 undef, T.getD 20 undef, .slice (some ⟨C, 0, none⟩) K K, .int .i64 0, T.getD 23 undef, T.getD 24 undef, T.getD 25 undef, T.getD 26 undef, T.getD 27 undef, T.getD 28 undef, T.getD 29 undef, T.getD 30 undef, T.getD 31 undef, T.getD 32 undef, T.getD 33 undef, T.getD 34 undef, T.getD 35 undef, T.getD 36 undef, T.getD 37 undef, T.getD 38 undef, T.getD 39 undef, T.getD 40 undef, T.getD 41 undef, T.getD 42 undef, T.getD 43 undef, T.getD 44 undef, T.getD 45 undef, T.getD 46 undef, T.getD 47 undef, T.getD 48 undef, T.getD 49 undef, T.getD 50 undef, T.getD 51 undef, T.getD 52 undef, T.getD 53 undef, T.getD 54 undef, T.getD 55 undef, T.getD 56 undef, T.getD 57 undef, T.getD 58 undef, T.getD 59 undef, T.getD 60 undef, T.getD 61 undef, T.getD 62 undef, T.getD 63 undef, T.getD 64 undef, T.getD 65 undef, T.getD 66 undef, T.getD 67 undef, T.getD 68 undef, T.getD 69 undef, T.getD 70 undef, T.getD 71 undef, T.getD 72 undef, T.getD 73 undef, T.getD 74 undef, T.getD 75 undef, T.getD 76 undef, T.getD 77 undef, T.getD 78 undef, T.getD 79 undef, T.getD 80 undef, T.getD 81 undef, T.getD 82 undef, T.getD 83 undef, T.getD 84 undef, T.getD 85 undef, T.getD 86 undef, T.getD 87 undef, T.getD 88 undef, T.getD 89 undef, T.getD 90 undef, T.getD 91 undef, T.getD 92 undef, T.getD 93 undef, T.getD 94 undef, T.getD 95 undef, T.getD 96 undef, T.getD 97 undef, T.getD 98 undef, T.getD 99 undef, T.getD 100 undef, T.getD 101 undef, T.getD 102 undef, T.getD 103 undef, T.getD 104 undef, T.getD 105 undef, T.getD 106 undef, T.getD 107 undef, T.getD 108 undef, T.getD 109 undef, T.getD 110 undef, T.getD 111 undef, T.getD 112 undef, T.getD 113 undef, T.getD 114 undef, T.getD 115 undef, T.getD 116 undef, T.getD 117 undef, T.getD 118 undef, T.getD 119 undef, T.getD 120 undef, T.getD 121 undef, T.getD 122 undef, T.getD 123 undef, T.getD 124 undef, T.getD 125 undef, T.getD 126 undef, T.getD 127 undef, T.getD 128 undef, T.getD 129 undef, T.getD 130 undef, T.getD 131 undef, T.getD 132 undef, T.getD 133 undef, T.getD 134 undef, T.getD 135 undef, T.getD 136 undef, T.getD 137 undef, T.getD 138 undef, T.getD 139 undef, T.getD 140 undef, T.getD 141 undef, T.getD 142 undef, T.getD 143 undef, T.getD 144 undef, T.getD 145 undef, T.getD 146 undef, T.getD 147 undef, T.getD 148 undef, T.getD 149 undef, T.getD 150 undef, T.getD 151 undef, T.getD 152 undef, T.getD 153 undef, T.getD 154 undef, T.getD 155 undef, T.getD 156 undef, T.getD 157 undef, T.getD 158 undef, T.getD 159 undef, T.getD 160 undef, T.getD 161 undef, T.getD 162 undef, T.getD 163 undef, T.getD 164 undef, T.getD 165 undef, T.getD 166 undef, T.getD 167 undef, T.getD 168 undef, T.getD 169 undef, T.getD 170 undef, T.getD 171 undef, T.getD 172 undef, T.getD 173 undef, T.getD 174 undef, T.getD 175 undef, T.getD 176 undef, T.getD 177 undef, T.getD 178 undef, T.getD 179 undef, T.getD 180 undef, T.getD 181 undef, T.getD 182 undef, T.getD 183 undef, T.getD 184 undef, T.getD 185 undef, T.getD 186 undef, T.getD 187 undef, T.getD 188 undef, T.getD 189 undef, T.getD 190 undef, T.getD 191 undef]) : TSuf p Rb N L bc K cap C T := ⟨fun i => T.getD i undef, h⟩

section
variable {X : Nat → Prop} {Y : Nat → Option Obj} {D : Array Event → Prop} {Stop : Goroutine → World → Prop} {v : World} {K N L p Rb bc cap C : Nat} {yv xv : Nat → Nat → Nat} {q : CL} {bd dN : Nat → Nat}
set_option maxHeartbeats 8000000 in
set_option maxRecDepth 100000 in
theorem solved_post (hD : ∀ w es, EvsP X w es → D es) {T : Array Value} (hT : TSuf p Rb N L bc K cap C T) (hS : SufF K N L yv p Rb bc q bd C dN xv v)
    (hend : ∀ (T' : Array Value) (v' : World), T'.getD 10 undef = .bool true → Alk v' v → ReaI Try.prog X Y D Stop 7 [] [.code .ret] ⟨T', []⟩ v') :
    ReaI Try.prog X Y D Stop 7 [] [.code c21] ⟨T, []⟩ v := by
  obtain ⟨f, rfl⟩ := hT
  have hn := hS.num
  unfold c21 c20 body7
  simp only [cSnd7, Try.f7, Option.getD_some]
  refine reachI_go goodF hD (by kernel_rfl) rfl sf7 fun R hR τ d' => ?_
  have hS1 := hS.heap (v' := { v with tape := τ, drawn := d' }) rfl
  have hv1 : Alk { v with tape := τ, drawn := d' } v := ⟨rfl, rfl, rfl⟩
  generalize { v with tape := τ, drawn := d' } = v1 at hS1 hv1 ⊢
  have a0 := hS1.par0
  go_wp2
  clear a0
  refine reachI_go goodF hD (by kernel_rfl) rfl sf7 fun R hR τ2 d2 => ?_
  have hS2 := hS1.heap (v' := { v1 with tape := τ2, drawn := d2 }) rfl
  have hv2 : Alk { v1 with tape := τ2, drawn := d2 } v := hv1
  generalize { v1 with tape := τ2, drawn := d2 } = v2 at hS2 hv2 ⊢
  have a0 := hS2.par0
  go_wp2
  go_loopw [23] (fun vi wr => ∃ i : Nat, i ≤ K ∧ vi = .int .i64 (i : Int) ∧ Alk wr v) (fun i _ => K - (intOf i).toNat)
  case atStart => exact ⟨0, by omega, rfl, hv2⟩
  case round =>
    obtain ⟨i, hi, rfl, hwr⟩ := hrel
    have hSr := hS.heap hwr.1
    clear a0
    have a0 := hSr.par0
    by_cases hlt : i < K
    · have hlt' : (i : Int) < (K : Int) := by omega
      have g0 := hSr.c0 i hlt
      have hx := hSr.ixN i hlt
      have hx' : ((q.ix i : Nat) : Int) < (N : Int) := by omega
      have g1 := hSr.head (q.ix i) hx
      have g2 := hSr.ans i hlt
      generalize q.ix i = x at *
      go_wp2
      go_roundw
      case rel => exact ⟨i + 1, by omega, by go_num, hwr⟩
      case measure => simp [intOf]; omega
    · have hnl : ¬ ((i : Int) < (K : Int)) := by omega
      go_wp2
      clear a0
      refine reachI_go goodF hD (by kernel_rfl) rfl sf7 fun R hR τ3 d3 => ?_
      have hv3 : Alk { wr with tape := τ3, drawn := d3 } v := hwr
      generalize { wr with tape := τ3, drawn := d3 } = v3 at hv3 ⊢
      clear hS1 hS2 hSr hwr hv1 hv2
      go_wp2
      go_loopw [25] (fun vi wr => ∃ j : Nat, j ≤ K ∧ vi = .int .i64 (j : Int) ∧ Alk wr v) (fun i _ => K - (intOf i).toNat)
      case atStart => exact ⟨0, by omega, rfl, hv3⟩
      case round =>
        clear hv3
        obtain ⟨i4, hi4, rfl, hwr⟩ := hrel
        have hSr := hS.heap hwr.1
        have a0 := hSr.par0
        by_cases hlt4 : i4 < K
        · have hlt4' : (i4 : Int) < (K : Int) := by omega
          have g0 := hSr.c0 i4 hlt4
          have hx := hSr.ixN i4 hlt4
          have hx' : ((q.ix i4 : Nat) : Int) < (N : Int) := by omega
          have g1 := hSr.head (q.ix i4) hx
          have hmix := hS.mix i4
          generalize hxx : q.ix i4 = x at *
          go_wp2
          clear g0 g1 a0
          go_loopw [27] (fun vm wr => ∃ m : Nat, m ≤ L ∧ vm = .int .i64 (m : Int) ∧ Alk wr v) (fun m _ => L - (intOf m).toNat)
          case atStart => exact ⟨0, by omega, rfl, hwr⟩
          case round =>
            clear hwr hSr
            obtain ⟨m, hm, rfl, hwr⟩ := hrel
            by_cases hltm : m < L
            · have hltm' : (m : Int) < (L : Int) := by omega
              go_wp2
              go_loopw [28, 29] (fun vv vj wr => ∃ j : Nat, j ≤ K ∧ vj = .int .i64 (j : Int) ∧ vv = .int .u8 ((mixN K (rowV K x) (fun j => xv j m) j : Nat) : Int) ∧ Alk wr v) (fun _ j _ => K - (intOf j).toNat)
              case atStart => exact ⟨0, by omega, rfl, rfl, hwr⟩
              case round =>
                clear hwr
                obtain ⟨j, hj, rfl, rfl, hwr⟩ := hrel
                have hSr := hS.heap hwr.1
                have a0 := hSr.par0
                by_cases hltj : j < K
                · have hltj' : (j : Int) < (K : Int) := by omega
                  have g0 := hSr.rows x j hx hltj
                  have g1 := hSr.ans j hltj
                  have g2 := hSr.xs j m hltj hltm
                  have hrl : rowV K x j < 256 := rowV_lt
                  have hxl := hSr.xl j m
                  have hml := mixN_lt K (rowV K x) (fun j => xv j m) (fun _ => rowV_lt) j
                  have hmu : mul (rowV K x j) (xv j m) < 256 := mul_lt hrl
                  have hxor := u8_xor_nat _ _ hml hmu
                  have hmx : mixN K (rowV K x) (fun j => xv j m) (j + 1) = mixN K (rowV K x) (fun j => xv j m) j ^^^ mul (rowV K x j) (xv j m) := rfl
                  rw [← hmx] at hxor
                  have cm := fun w => cmul_any (rowV K x j) (xv j m) hrl hxl w
                  clear hmx
                  generalize hM1 : mixN K (rowV K x) (fun j => xv j m) (j + 1) = mx1 at *
                  generalize mixN K (rowV K x) (fun j => xv j m) j = mx0 at *
                  generalize mul (rowV K x j) (xv j m) = mu at *
                  generalize rowV K x j = rj at *
                  generalize xv j m = xj at *
                  go_wp2_with fail
                  go_big_quiet (exact Calls.quiet_of_same (cm _))
                  have hwq : Alk (wr.drewN nq) v := hwr
                  generalize wr.drewN nq = wz at hwq ⊢
                  go_wp2
                  go_roundw
                  case rel => exact ⟨j + 1, by omega, by go_num, by rw [hM1], hwq⟩
                  case measure => simp [intOf]; omega
                · obtain rfl : j = K := by omega
                  have hnl : ¬ ((j : Int) < (j : Int)) := by omega
                  have e1 := hmix m hlt4 hltm
                  rw [e1]
                  have g0 := hSr.c1 i4 hlt4
                  rw [hSr.db i4 hlt4 (by omega)] at g0
                  have g1 := hSr.data i4 m hlt4 hltm
                  generalize yv i4 m = y at *
                  generalize bd i4 = bdi at *
                  go_wp2
                  go_roundw
                  case rel => exact ⟨m + 1, by omega, by go_num, hwr⟩
                  case measure => simp [intOf]; omega
            · have hnl : ¬ ((m : Int) < (L : Int)) := by omega
              go_wp2
              go_roundw
              case rel => exact ⟨i4 + 1, by omega, by go_num, hwr⟩
              case measure => simp [intOf]; omega
        · have hnl : ¬ ((i4 : Int) < (K : Int)) := by omega
          go_wp2
          refine reachI_go goodF hD (by kernel_rfl) rfl sf7 fun R hR τ4 d4 => ?_
          have hv4 : Alk { wr with tape := τ4, drawn := d4 } v := hwr
          generalize { wr with tape := τ4, drawn := d4 } = v4 at hv4 ⊢
          go_wp2
          exact hend _ v4 rfl hv4
end
end Go.Proofs.Ytkpcmfgeanlcnaa

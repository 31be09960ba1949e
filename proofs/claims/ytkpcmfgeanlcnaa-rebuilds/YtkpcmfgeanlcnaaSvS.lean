/-
  The fork of coding.Rebuild, whatever is above it: its beginning, what stands there, what lies behind the join; from the join back.
-/
import Derived.Test.YtkpcmfgeanlcnaaSvN
import Derived.Test.YtkpcmfgeanlcnaaSvR
import Derived.Test.YtkpcmfgeanlcnaaCoU
namespace Go.Proofs.Ytkpcmfgeanlcnaa
open Go.RowKit Go.Deep Go.Lf Go.Conc Go.ConcN Go.Gh
open Go.ConcR (Payload WgAt wgBlock)

/-- Alike but for the tape. -/
def Alk (a b : World) : Prop := a.heap = b.heap ∧ a.os = b.os ∧ a.output = b.output
theorem Alk.trans {a b c : World} (h : Alk a b) (h' : Alk b c) : Alk a c := ⟨h.1.trans h'.1, h.2.1.trans h'.2.1, h.2.2.trans h'.2.2⟩
/-- The bytes in order, from any place of their lists on. -/
structure DO (w : World) (n : Nat) (q : CL) (bd od : Nat → Nat) (yv : Nat → Nat → Nat) : Prop where
  lt : ∀ i, i < n → bd i < w.heap.size
  here : ∀ i, i < n → 0 < q.L → q.db i = some ⟨bd i, od i, none⟩
  y : ∀ i m, i < n → m < q.L → w.cell? ⟨bd i, od i + m, none⟩ = some (.int .u8 ((yv i m : Nat) : Int))
  yl : ∀ i m, yv i m < 256
theorem DO.below {w w' : World} {n B : Nat} {q : CL} {bd od : Nat → Nat} {yv : Nat → Nat → Nat} (h : DO w n q bd od yv) (hb : Below B w w') (hB : w.heap.size ≤ B) : DO w' n q bd od yv :=
  ⟨fun i hi => Nat.lt_of_lt_of_le (h.lt i hi) hb.size, h.here, fun i m hi hm => (hb.cell (p := ⟨bd i, _, none⟩) (Nat.lt_of_lt_of_le (h.lt i hi) hB)).trans (h.y i m hi hm), h.yl⟩

noncomputable def q12 : {x : Array Oper // x = cOps7 (cFst7 c12)} := ⟨_, by simp only [c12, body31, cFst7, cSnd7, cOps7, Try.f31, Option.getD_some]; rfl⟩
noncomputable def o12 : Array Oper := q12.1
theorem c12_eq : c12 = .seq (.region 12 o12 false) rTail := by kernel_rfl
theorem n12 : o12.size = 1 := by kernel_rfl

section
variable {K L : Nat}
def colOf (q : CL) (bd od : Nat → Nat) (yv : Nat → Nat → Nat) (L i : Nat) : Col := ⟨q.db i, bd i, od i, q.dc i, (List.range L).map (yv i)⟩
def envS (K L : Nat) (q : CL) (σ bd od : Nat → Nat) (yv : Nat → Nat → Nat) (bp bdv bD bv h2 ba : Nat) (b2 : Nat → Nat) (B : Nat → Nat → F) (h0 : Nat → Option Obj) : Env :=
  { ba := ba, bv := bv, bW := h2, oW := 0, cW := K, bd := bdv, bD := bD, oD := 0, cD := K, bp := bp, op := 0, cp := K, br := b2, oR := fun _ => 0, cR := fun _ => K, ws := fun t => (List.range K).map fun j => (B t j).val, px := fun t => q.ix (σ t), cs := (List.range K).map fun t => colOf q bd od yv L (σ t), h0 := h0 }

set_option maxRecDepth 100000 in
set_option maxHeartbeats 4000000 in
theorem fork_alloc {cs : List Frame} {bp bdv bv ba : Nat} {T : Array Value} (W : World) (hT : TPre bp K bdv bv ba T) :
    ∃ T', (∀ E : Env, E.bp = bp → E.op = 0 → E.cp = K → E.bd = bdv → E.bv = bv → E.ba = ba → TW E W.heap.size K T') ∧ Gets Try.prog (· = W.heap.size) (G ((base 31).at ⟨T, []⟩ [.code c12]) cs) W (G ((base 31).at ⟨T', []⟩ [.code rTail]) cs) (W.alloc (wgBlock link.tWg 0 0)) := by
  obtain ⟨f, rfl⟩ := hT
  have noE : ∀ X w, EvsP X w #[] := fun _ _ _ he => by simp at he
  rw [c12_eq]
  have key : ∀ (a : Act) (o : Oper) (u : Value) (W' : World), o12[0]? = some o → a.defers = [] → Region.wanted o (yielded o12 a.tmps) = true → (execOp a.eval o).run Try.prog W = .ok (.value u) W' → listed Try.prog 31 a o W = #[] → W.heap.size ≤ W'.heap.size →
      Gets Try.prog (· = W.heap.size) (G ((base 31).at a [.code (.seq (.region 12 o12 false) rTail)]) cs) W (G ((base 31).at (a.put o.dst u) [.code rTail]) cs) W' := by
    intro a o u W' ho ha hw hr hl hs
    refine .step rfl stepG_seq (noE _ _) (Nat.le_refl _) (.step rfl stepG_region (noE _ _) (Nat.le_refl _) ?_)
    rw [n12]
    simp only [List.range, List.range.loop]
    refine .step rfl (stepG_value (b := base _) ho hw (by intro h; cases h) hr) (by rw [show (base 31).fn = 31 from rfl, hl]; exact noE _ _) hs ?_
    exact .step rfl stepG_region_end (noE _ _) (Nat.le_refl _) (.refl _ _)
  refine ⟨_, fun E h1 h2 h3 h4 h5 h6 => ?_, key _ _ (.pointer (some ⟨W.heap.size, 0, none⟩)) _ (by simp only [o12, q12]; rfl) rfl rfl (by go_simp; rfl) (listed_nil (by go_simp)) (by simp)⟩
  subst h1 h3 h4 h5 h6
  refine ⟨fun i => if i = 12 then undef else f i, ?_⟩
  rw [h2]
  rfl

theorem range_get {n i j : Nat} (h : (List.range n)[i]? = some j) : i < n ∧ j = i := by
  obtain ⟨h1, h2⟩ := List.getElem?_eq_some_iff.1 h
  simp at h1 h2
  exact ⟨h1, h2.symm⟩
theorem envS_ok {q : CL} {σ bd od : Nat → Nat} {yv : Nat → Nat → Nat} {bp bdv bD bv h2 ba : Nat} {b2 : Nat → Nat} {B : Nat → Nat → F} {h0 : Nat → Option Obj} (hn : 0 < K ∧ K ≤ 128) (hL : L ≤ 140737488355328) (hx : ∀ t, t < K → q.ix (σ t) < 128) (hy : ∀ i m, yv i m < 256) : EnvOk (envS K L q σ bd od yv bp bdv bD bv h2 ba b2 B h0) K L := by
  refine ⟨by omega, by omega, by omega, by simp [envS], fun t _ => ⟨by simp [envS, LenIs], fun x hx => ?_⟩, fun c hc => ?_, fun t ht => ?_⟩
  · simp only [envS, List.mem_map] at hx
    obtain ⟨j, _, rfl⟩ := hx
    exact (B t j).isLt
  · simp only [envS, List.mem_map] at hc
    obtain ⟨j, _, rfl⟩ := hc
    refine ⟨by simp [colOf, LenIs], fun y hy' => ?_⟩
    simp only [colOf, List.mem_map] at hy'
    obtain ⟨m, _, rfl⟩ := hy'
    exact hy _ _
  · have := hx t ht
    show q.ix (σ t) < 128
    omega

theorem cell_alloc {W : World} {b o : Nat} {u : Value} (x : Obj) (h : W.cell? ⟨b, o, none⟩ = some u) : (W.alloc x).cell? ⟨b, o, none⟩ = some u := by
  have hb := cell_lt h
  simp only [World.cell?, Below.heap_alloc _ _ _ hb] at h ⊢
  exact h

theorem sf_start [Payload] (hpe : Payload.ety = 41) {Y : Nat → Option Obj} {w2 v3 W : World} {C : Nat} {q : CL} {σ bd od : Nat → Nat} {yv : Nat → Nat → Nat} {bp bdv bD bv h2 ba : Nat} {b2 : Nat → Nat} {B : Nat → Nat → F} (hs : Sim NoX Y W v3) (hS : DO w2 K q bd od yv) (hqL : q.L = L) (hb : Below w2.heap.size w2 v3) (hlow : ∀ b, b < w2.heap.size → b < C) (hP : PF31 K q σ bp bdv bD bv h2 ba C b2 B v3) :
    SF W.heap.size C K (W.heap.size + 1) L (envS K L q σ bd od yv bp bdv bD bv h2 ba b2 B (fun b => (W.alloc (wgBlock link.tWg 0 0)).heap[b]?)) (W.heap.size + 1) 0 (gw (W.alloc (wgBlock link.tWg 0 0)) []) := by
  obtain ⟨n1, n2, n3, n4, n5, n6, n7, n8⟩ := hP.new
  have hsz := hs.size
  have st : ∀ {b o : Nat} {u : Value}, v3.cell? ⟨b, o, none⟩ = some u → (gw (W.alloc (wgBlock link.tWg 0 0)) []).cell? ⟨b, o, none⟩ = some u := fun {b o u} h => cell_alloc (wgBlock link.tWg 0 0) (sim_cell hs h)
  have lo : ∀ {b : Nat}, b < v3.heap.size → b ≠ C → Lo W.heap.size C (W.heap.size + 1) b := fun {b} h h' => ⟨by omega, by omega, h'⟩
  have la : Lo W.heap.size C (W.heap.size + 1) ba := lo (by omega) (by omega)
  have lv : Lo W.heap.size C (W.heap.size + 1) bv := lo (by omega) (by omega)
  have lW : Lo W.heap.size C (W.heap.size + 1) h2 := lo (by omega) (by omega)
  have ld : Lo W.heap.size C (W.heap.size + 1) bdv := lo (by omega) (by omega)
  have lD : Lo W.heap.size C (W.heap.size + 1) bD := lo (by omega) (by omega)
  have lp : Lo W.heap.size C (W.heap.size + 1) bp := lo (by omega) (by omega)
  have lr : ∀ t, t < K → Lo W.heap.size C (W.heap.size + 1) (b2 t) := fun t ht => lo (by have := n6 t ht; omega) (by have := n6 t ht; omega)
  have hcs : ∀ {t : Nat} {c : Col}, ((List.range K).map fun t => colOf q bd od yv L (σ t))[t]? = some c → t < K ∧ c = colOf q bd od yv L (σ t) := fun {t c} e => by
    rw [List.getElem?_map] at e
    obtain ⟨j', hj', rfl⟩ := Option.map_eq_some_iff.1 e
    obtain ⟨h1, rfl⟩ := range_get hj'
    exact ⟨h1, rfl⟩
  have hsz1 : (gw (W.alloc (wgBlock link.tWg 0 0)) []).heap.size = W.heap.size + 1 := by show (W.alloc _).heap.size = _; simp
  refine ⟨⟨?_, by omega, by omega, fun b hb => ?_⟩, ⟨madeCells #[.slice none 0 0] K, ?_, size_madeCells _ _⟩, ⟨la, lv, lW, ld, lD, lp, lr, st hP.va, st hP.vv, st hP.vd, fun t ht => ?_, fun t ht j x e => ?_, fun j c e => ?_, fun t ht => ?_, fun t c e => ?_, fun c hc => ?_, fun b _ _ _ => rfl⟩, ⟨by omega, by omega, by omega⟩, fun t c ht => absurd ht (by omega)⟩
  · unfold gw
    rw [tag_book]
    exact Nat.le_refl _
  · unfold gw at hb
    rw [own_book] at hb
    cases hb
  · rw [hpe]
    show (W.alloc _).heap[C]? = _
    rw [Below.heap_alloc _ _ _ (by omega)]
    exact sim_block hs hP.pay
  · simp only [envS, Nat.zero_add]
    exact st (hP.hW t ht)
  · simp only [envS, Nat.zero_add, List.getElem?_map] at e ⊢
    obtain ⟨j', hj', rfl⟩ := Option.map_eq_some_iff.1 e
    obtain ⟨h1, rfl⟩ := range_get hj'
    exact st (hP.hw t _ ht h1)
  · obtain ⟨h1, rfl⟩ := hcs e
    simp only [envS, colOf, Nat.zero_add]
    have := st (hP.hD j h1)
    rw [CL.d, hqL] at this
    exact this
  · simp only [envS, Nat.zero_add]
    exact st (hP.p0 t ht)
  · obtain ⟨h1, rfl⟩ := hcs e
    simp only [envS, colOf, Nat.zero_add]
    have := st (hP.p1 t h1)
    rw [CL.d, hqL] at this
    exact this
  · simp only [envS, List.mem_map, List.mem_range] at hc
    obtain ⟨t, ht, rfl⟩ := hc
    have hσ := hP.pl.lt t ht
    have d1 := hS.lt (σ t) hσ
    have d2 := hS.here (σ t) hσ
    have d3 := hS.y (σ t)
    rw [hqL] at d2 d3
    have := hlow _ d1
    refine ⟨lo (by show bd (σ t) < _; omega) (by show bd (σ t) ≠ C; omega), d2, fun i y e => ?_⟩
    simp only [colOf, List.getElem?_map] at e ⊢
    obtain ⟨j', hj', rfl⟩ := Option.map_eq_some_iff.1 e
    obtain ⟨h1, rfl⟩ := range_get hj'
    exact st ((hb.cell (p := ⟨bd (σ t), _, none⟩) d1).trans (d3 _ hσ h1))

def yF (yv : Nat → Nat → Nat) (σ : Nat → Nat) (m j : Nat) : F := Fin.ofNat 256 (yv (σ j) m)
theorem yF_val {yv : Nat → Nat → Nat} (h : ∀ i m, yv i m < 256) (σ : Nat → Nat) (m j : Nat) : (yF yv σ m j).val = yv (σ j) m := Nat.mod_eq_of_lt (h _ _)
/-- The bytes that come out. -/
def xF (K : Nat) (B : Nat → Nat → F) (yv : Nat → Nat → Nat) (σ : Nat → Nat) (t m : Nat) : F := F.dot K (B t) (yF yv σ m)

section
variable {q : CL} {σ bd od : Nat → Nat} {yv : Nat → Nat → Nat} {bp bdv bD bv h2 ba C : Nat} {b2 : Nat → Nat} {B : Nat → Nat → F} {h0 : Nat → Option Obj}
theorem res_val (hy : ∀ i m, yv i m < 256) (t m : Nat) (hm : m < L) : ((envS K L q σ bd od yv bp bdv bD bv h2 ba b2 B h0).res L t).getD m 0 = (xF K B yv σ t m).val := by
  have e : zsOf ((envS K L q σ bd od yv bp bdv bD bv h2 ba b2 B h0).ws t) (envS K L q σ bd od yv bp bdv bD bv h2 ba b2 B h0).cs = (List.range K).map fun j => ((B t j).val, (List.range L).map (yv (σ j))) := by
    simp only [zsOf, envS, List.map_map]
    exact List.zip_map'
  unfold Env.res
  rw [e, comb_get (fun j => (B t j).val) (fun j => (List.range L).map (yv (σ j))) L m hm (fun j => by simp) K]
  have e2 : (fun (j r : Nat) => r ^^^ mul (((List.range L).map (yv (σ j))).getD m 0) (B t j).val) = fun j r => r ^^^ mul (yF yv σ m j).val (B t j).val := by
    funext j r
    rw [yF_val hy]
    simp [hm]
  rw [e2, rec_dot K (B t) (yF yv σ m) K]
  rfl
theorem res_len (t : Nat) : ((envS K L q σ bd od yv bp bdv bD bv h2 ba b2 B h0).res L t).length = L := by
  unfold Env.res
  rw [comb_length]
  simp
theorem here_val (hK : K ≤ 128) (hx : ∀ i, i < K → q.ix i < 128) (hpl : Placed K q.ix σ) (hg : ∃ A, F.Gj K (mF K fun s => q.ix (σ s)) K A B) {t : Nat} (ht : t < K) (e : q.ix (σ t) = t) (m : Nat) : xF K B yv σ t m = yF yv σ m t := by
  obtain ⟨A, hg⟩ := hg
  have h1 := F.gj_end hg (yF yv σ m) t ht
  rw [F.dot_unit ht ((mF_sq hK hpl hx).unit t ht (by rw [show (Fin.ofNat 256 (q.ix (σ t))).val = q.ix (σ t) from Nat.mod_eq_of_lt (by have := hx _ (hpl.lt t ht); omega), e]; exact ht)).2] at h1
  exact h1
theorem mix_val (hpl : Placed K q.ix σ) (hg : ∃ A, F.Gj K (mF K fun s => q.ix (σ s)) K A B) {i m : Nat} (hi : i < K) : F.dot K (mF K q.ix i) (fun j => xF K B yv σ j m) = Fin.ofNat 256 (yv i m) := by
  obtain ⟨A, hg⟩ := hg
  obtain ⟨t, ht, rfl⟩ := hpl.all i hi
  exact F.gj_end hg (yF yv σ m) t ht

theorem cell_up {W v : World} {Wg b o : Nat} {u : Value} (hk : ∀ b c t fr, some b ≠ some Wg → W.heap[b]? = some (.cells c t fr) → v.heap[b]? = some (.cells c t fr)) (hb : b ≠ Wg) (h : W.cell? ⟨b, o, none⟩ = some u) : v.cell? ⟨b, o, none⟩ = some u := by
  have h' := h
  unfold World.cell? at h'
  cases e : W.heap[b]? with
  | none => simp only [e] at h'; cases h'
  | some x =>
    cases x with
    | cells c t fr =>
      have := hk b c t fr (by simpa using hb) e
      simp only [World.cell?, e] at h
      simp only [World.cell?, this]
      exact h
    | _ => simp only [e] at h'; cases h'

theorem suf_of [Payload] {Y : Nat → Option Obj} {w2 v3 W W' v' : World} {s0 : Nat} {l ids : List Nat} (hs : Sim NoX Y W v3) (hn : 0 < K ∧ K ≤ 128) (hx : ∀ i, i < K → q.ix i < 128) (hS : DO w2 K q bd od yv) (hb : Below w2.heap.size w2 v3) (hlow : ∀ b, b < w2.heap.size → b < C) (hP : PF31 K q σ bp bdv bD bv h2 ba C b2 B v3)
    (hk : ∀ b c t fr, some b ≠ some W.heap.size → W'.heap[b]? = some (.cells c t fr) → v'.heap[b]? = some (.cells c t fr)) (hwg : ∃ st sm, WgAt link.tWg W.heap.size W' st sm)
    (hF : SF W.heap.size C K (W.heap.size + 1) L (envS K L q σ bd od yv bp bdv bD bv h2 ba b2 B (fun b => (W.alloc (wgBlock link.tWg 0 0)).heap[b]?)) s0 K (gw W' l)) (hids : ∀ x, x ∈ ids ↔ (envS K L q σ bd od yv bp bdv bD bv h2 ba b2 B (fun b => (W.alloc (wgBlock link.tWg 0 0)).heap[b]?)).mis K x)
    (hres : ∀ x ∈ ids, ∃ v l', Has C x v W' ∧ WPr C L ((envS K L q σ bd od yv bp bdv bD bv h2 ba b2 B (fun b => (W.alloc (wgBlock link.tWg 0 0)).heap[b]?)).res L) x v (gw W' l')) :
    (∃ dN : Nat → Nat, ∀ t, t < K → v'.cell? ⟨C, t, none⟩ = some (.slice (some ⟨dN t, 0, none⟩) L L) ∧ ∀ m, m < L → v'.cell? ⟨dN t, m, none⟩ = some (.int .u8 (((xF K B yv σ t m).val : Nat) : Int))) ∧ (∀ {b o : Nat} {u : Value}, w2.cell? ⟨b, o, none⟩ = some u → v'.cell? ⟨b, o, none⟩ = some u) ∧ v'.cell? ⟨ba, 0, none⟩ = some (.slice (some ⟨C, 0, none⟩) K K) := by
  obtain ⟨n1, n2, n3, n4, n5, n6, n7, n8⟩ := hP.new
  have hsz := hs.size
  obtain ⟨sg, sm, hwg⟩ := hwg
  have up : ∀ {b o : Nat} {u : Value}, b ≠ W.heap.size → W'.cell? ⟨b, o, none⟩ = some u → v'.cell? ⟨b, o, none⟩ = some u := fun hb h => cell_up hk hb h
  have lw : ∀ {b o : Nat} {u : Value}, b < v3.heap.size → b ≠ C → v3.cell? ⟨b, o, none⟩ = some u → v'.cell? ⟨b, o, none⟩ = some u := fun {b o u} h h' hc => by
    refine up (by omega) ?_
    have e1 : W'.heap[b]? = (W.alloc (wgBlock link.tWg 0 0)).heap[b]? := hF.low.std b (by omega) (by omega) h'
    rw [Below.heap_alloc _ _ _ (by omega)] at e1
    have e2 := sim_cell hs hc
    simp only [World.cell?, e1] at e2 ⊢
    exact e2
  have l2 : ∀ {b o : Nat} {u : Value}, w2.cell? ⟨b, o, none⟩ = some u → v'.cell? ⟨b, o, none⟩ = some u := fun {b o u} hc => by
    have h1 := cell_lt hc
    have h2 := hlow _ h1
    exact lw (by omega) (by omega) ((hb.cell (p := ⟨b, o, none⟩) h1).trans hc)
  have hmem : ∀ t, t < K → ∃ N', v'.cell? ⟨C, t, none⟩ = some (.slice (some ⟨N', 0, none⟩) L L) ∧ ∀ m, m < L → v'.cell? ⟨N', m, none⟩ = some (.int .u8 (((xF K B yv σ t m).val : Nat) : Int)) := by
    intro t ht
    have fin : ∀ (N' : Nat) (xs : List Nat), W'.heap[N']? = some (.cells (bytesA xs) 5) → xs.length = L → (∀ m, m < L → xs.getD m 0 = (xF K B yv σ t m).val) → ∀ m, m < L → v'.cell? ⟨N', m, none⟩ = some (.int .u8 (((xF K B yv σ t m).val : Nat) : Int)) := by
      intro N' xs h1 h2 h3 m hm
      refine up (fun e => ?_) ?_
      · subst e
        unfold WgAt at hwg
        rw [h1] at hwg
        simp [wgBlock] at hwg
      · simp only [World.cell?, h1]
        rw [bytesA_get, List.getElem?_eq_getElem (by omega), Option.map_some, ← h3 m hm, List.getD_eq_getElem?_getD, List.getElem?_eq_getElem (by omega)]
        rfl
    by_cases e : q.ix (σ t) = t
    · have hc : (envS K L q σ bd od yv bp bdv bD bv h2 ba b2 B (fun b => (W.alloc (wgBlock link.tWg 0 0)).heap[b]?)).cs[t]? = some (colOf q bd od yv L (σ t)) := by
        show ((List.range K).map _)[t]? = _
        rw [List.getElem?_map, List.getElem?_range ht]
        rfl
      obtain ⟨N', _, _, _, h1, h2⟩ := hF.dn t _ ht (fun hm => hm.2 e) hc
      refine ⟨N', up (by omega) h1, fin N' _ h2 (by simp [colOf]) fun m hm => ?_⟩
      rw [here_val hn.2 hx hP.pl hP.gj ht e, yF_val hS.yl]
      simp [colOf, hm]
    · obtain ⟨v, l', h1, N', rfl, _, _, h2⟩ := hres t ((hids t).2 ⟨ht, e⟩)
      exact ⟨N', up (by omega) h1, fin N' _ h2 (res_len t) fun m hm => res_val hS.yl t m hm⟩
  refine ⟨⟨fun t => if h : t < K then (hmem t h).choose else 0, fun t ht => ?_⟩, l2, lw (by omega) (by omega) hP.va⟩
  simp only [dif_pos ht]
  exact (hmem t ht).choose_spec
end
end

/-- What was there stands. -/
structure Kept (w w' : World) : Prop where
  os : w'.os = w.os
  output : w'.output = w.output
  size : w.heap.size ≤ w'.heap.size
  block : ∀ b, b < w.heap.size → w'.heap[b]? = w.heap[b]?
theorem Sim.agree {X : Nat → Prop} {Y : Nat → Option Obj} {w w' v v' : World} (h : Sim X Y w v) (h' : Sim X Y w' v') {b : Nat} (hx : ¬ X b) (e : v'.heap[b]? = v.heap[b]?) : w'.heap[b]? = w.heap[b]? := by
  cases hy : Y b with
  | none => rw [h.same b hx hy, h'.same b hx hy, e]
  | some o =>
    obtain ⟨_, h1, _⟩ := h.gho b o hy
    obtain ⟨_, h2, _⟩ := h'.gho b o hy
    rw [h1, h2]
theorem no_ev {Wg : Nat} (w : World) (es : Array Event) (h : EvsP (fun b => some b = some Wg) w es) : ∀ e ∈ es, EvM (ShN Wg) e := by
  intro e he
  rcases h e he with ⟨a, wr, rfl, _, h3⟩ | ⟨r, wr, sy, rfl, _, _⟩ | rfl
  · refine ⟨fun x hx hs => ?_, by simp, by simp⟩
    simp only [MemAct.ofEvent, MemAct.touch?, Option.some.injEq] at hx
    subst hx
    obtain ⟨a', h4, h5⟩ := hs
    cases h4
    exact absurd (congrArg some h5) h3
  · refine ⟨fun x hx hs => ?_, by simp, by simp⟩
    obtain ⟨a', h4, _⟩ := hs
    cases wr <;> cases sy <;> simp only [MemAct.ofEvent, MemAct.touch?, Option.some.injEq, reduceCtorEq] at hx <;> (subst hx; cases h4)
  · exact ⟨fun x hx => by simp [MemAct.ofEvent, MemAct.touch?] at hx, by simp, by simp⟩
theorem misN_le (E : Env) : ∀ d j, misN E j d ≤ d
  | 0, _ => Nat.le_refl _
  | d + 1, j => by
    unfold misN
    have := misN_le E d (j + 1)
    split <;> omega

end Go.Proofs.Ytkpcmfgeanlcnaa

namespace Go.Proofs.Ytkpcmfgeanlcnaa
open Go.RowKit Go.Deep Go.Lf Go.Conc

section
variable {P : Program} {F : FuncId → Bool} {X : Nat → Prop} {Y : Nat → Option Obj} {D : Array Event → Prop} {Stop : Goroutine → World → Prop} {f : FuncId} {k : List Item} {cs : List Frame} {a : Act} {v : World} {ops : Array Oper} {i : Nat} {rest : List Nat} {o : Oper}
theorem reaI_tape (τ : Nat → Question → Nat) (d : Nat) (h : ReaI P X Y D Stop f cs k a v) : ReaI P X Y D Stop f cs k a { v with tape := τ, drawn := d } := fun w ⟨τ0, d0, hs⟩ => h w ⟨τ0, d0, hs⟩
theorem reaI_op0 (hF : GoodF P F) (hD : ∀ w es, EvsP X w es → D es) (u : Value) (ho : ops[i]? = some o) (hw : Region.wanted o (yielded ops a.tmps) = true) (hok : okOp P F o = true) (hrun : ∀ z : World, (execOp a.eval o).run P z = .ok (.value u) z) (h : ReaI P X Y D Stop f cs (.inRegion ops rest :: k) (a.put o.dst u) v) : ReaI P X Y D Stop f cs (.inRegion ops (i :: rest) :: k) a v :=
  reaI_op hF hD ho hw hok fun τ d => ⟨_, hrun _, reaI_tape τ d h⟩
end

section
variable {X : Nat → Prop} {Y : Nat → Option Obj} {D : Array Event → Prop} {Stop : Goroutine → World → Prop} {v : World} {K C Wg j : Nat} {E : Env} {cs : List Frame} {f : Frame}
set_option maxHeartbeats 8000000 in
set_option maxRecDepth 100000 in
theorem back18 (hD : ∀ w es, EvsP X w es → D es) {T18 : Array Value} (h18 : T20 T18)
    (hend : ∀ w, SimT X Y w v → GoesI Try.prog D Stop (G (f.finish (.tuple #[.slice (some ⟨C, 0, none⟩) K K, .int .i64 0])) cs) w) :
    ∀ w, SimT X Y w v → GoesI Try.prog D Stop (G ((frame18 T18).finish (.slice (some ⟨C, 0, none⟩) K K)) (f :: cs)) w := by
  have hD0 : D #[] := hD ⟨#[], fun _ _ => 0, 0, default, #[]⟩ #[] fun _ he => by simp at he
  obtain ⟨f0, rfl⟩ := h18
  have e : ∀ T, (frame18 T).finish (.slice (some ⟨C, 0, none⟩) K K) = (base 18).at (Act.put ⟨T, []⟩ (some 19) (.slice (some ⟨C, 0, none⟩) K K)) (.inRegion rc18 [3, 4] :: [.code .ret]) := fun T => by
    unfold frame18
    rw [Frame.finish_at]
    simp only [rc18, qc18]
    rfl
  rw [e]
  intro w hs
  revert w
  show ReaI _ _ _ _ _ _ _ _ _ _
  walk_nrm
  refine reaI_op0 goodF hD (.slice (some ⟨C, 0, none⟩) K K) (by simp only [rc18, qc18]; rfl) rfl (by kernel_rfl) (fun z => by go_simp) ?_
  walk_nrm
  refine reaI_op0 goodF hD (.int .i64 0) (by simp only [rc18, qc18]; rfl) rfl (by kernel_rfl) (fun z => by go_simp) ?_
  walk_nrm
  refine reaI_end hD0 ?_
  refine reaI_ret (y := .tuple #[.slice (some ⟨C, 0, none⟩) K K, .int .i64 0]) hD rfl Try.func18 (fun τ d => ?_) hend
  exact results_tmp2 (fn := Try.f18) (t := 6) (u := 7) rfl _ _ _

set_option maxHeartbeats 8000000 in
set_option maxRecDepth 100000 in
theorem back31 (hD : ∀ w es, EvsP X w es → D es) {T T18 : Array Value} {ops : Array Oper} (hT : TS E Wg K j T) (hba : v.cell? ⟨E.ba, 0, none⟩ = some (.slice (some ⟨C, 0, none⟩) K K)) (h18 : T20 T18)
    (hend : ∀ v', Alk v' v → ∀ w, SimT X Y w v' → GoesI Try.prog D Stop (G (f.finish (.tuple #[.slice (some ⟨C, 0, none⟩) K K, .int .i64 0])) cs) w) :
    ReaI Try.prog X Y D Stop 31 (frame18 T18 :: f :: cs) (.inRegion ops [] :: [.code rEnd2]) ⟨T, []⟩ v := by
  have hD0 : D #[] := hD ⟨#[], fun _ _ => 0, 0, default, #[]⟩ #[] fun _ he => by simp at he
  obtain ⟨v0, v1, v2, v3, v4, v5, v6, v8, v9, v13, v14, v15, v16, v17, v18, v19, v20, v21, v22, v23, v24, v25, v26, v27, v28, v29, v30, v31, v32, v33, v34, v35, v36, v37, v38, v39, v40, v41, v42, v43, v44, v45, v46, v50, v51, v52, v53, v54, v55, v56, v57, v58, v59, v60, v61, v62, v63, v64, v65, v66, v67, v68, rfl⟩ := hT
  refine reaI_end hD0 ?_
  unfold rEnd2
  simp only [o22, q22]
  refine reachI_go goodF hD (by kernel_rfl) rfl sf31 fun R hR τ d' => ?_
  have hb1 : ({ v with tape := τ, drawn := d' } : World).cell? ⟨E.ba, 0, none⟩ = some (.slice (some ⟨C, 0, none⟩) K K) := hba
  have hv1 : Alk { v with tape := τ, drawn := d' } v := ⟨rfl, rfl, rfl⟩
  generalize { v with tape := τ, drawn := d' } = v1 at hb1 hv1 ⊢
  go_wp2
  refine reaI_ret (y := .slice (some ⟨C, 0, none⟩) K K) hD rfl Try.func31 (fun τ d => ?_) (back18 hD h18 (hend v1 hv1))
  exact results_tmp (fn := Try.f31) (t := 4) rfl _ _ _
end
end Go.Proofs.Ytkpcmfgeanlcnaa

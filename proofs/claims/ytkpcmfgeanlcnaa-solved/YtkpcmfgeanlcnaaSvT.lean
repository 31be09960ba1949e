/-
  The fork's beginning, and what stands there; what the bytes behind the join are.
-/
import Derived.Test.YtkpcmfgeanlcnaaSvQ
import Derived.Test.YtkpcmfgeanlcnaaSvN
import Derived.Test.YtkpcmfgeanlcnaaSvR
namespace Go.Proofs.Ytkpcmfgeanlcnaa
open Go.RowKit Go.Deep Go.Lf Go.Conc Go.ConcN Go.Gh
open Go.ConcR (Payload WgAt wgBlock)

noncomputable def q12 : {x : Array Oper // x = cOps7 (cFst7 c12)} := ⟨_, by simp only [c12, body31, cFst7, cSnd7, cOps7, Try.f31, Option.getD_some]; rfl⟩
noncomputable def o12 : Array Oper := q12.1
theorem c12_eq : c12 = .seq (.region 12 o12 false) rTail := by kernel_rfl
theorem n12 : o12.size = 1 := by kernel_rfl

section
variable {K L Wg : Nat}
def colOf (q : CL) (bd : Nat → Nat) (yv : Nat → Nat → Nat) (L i : Nat) : Col := ⟨q.db i, bd i, 0, q.dc i, (List.range L).map (yv i)⟩
def envS (K L : Nat) (q : CL) (σ bd : Nat → Nat) (yv : Nat → Nat → Nat) (bp bdv bD bv h2 ba : Nat) (b2 : Nat → Nat) (B : Nat → Nat → F) (h0 : Nat → Option Obj) : Env :=
  { ba := ba, bv := bv, bW := h2, oW := 0, cW := K, bd := bdv, bD := bD, oD := 0, cD := K, bp := bp, op := 0, cp := K, br := b2, oR := fun _ => 0, cR := fun _ => K, ws := fun t => (List.range K).map fun j => (B t j).val, px := fun t => q.ix (σ t), cs := (List.range K).map fun t => colOf q bd yv L (σ t), h0 := h0 }

set_option maxRecDepth 100000 in
set_option maxHeartbeats 4000000 in
theorem fork_alloc {cs : List Frame} {bp bdv bv ba : Nat} {T : Array Value} (W : World) (hT : TPre bp K bdv bv ba T) :
    ∃ T', (∀ E : Env, E.bp = bp → E.op = 0 → E.cp = K → E.bd = bdv → E.bv = bv → E.ba = ba → TW E W.heap.size K T') ∧ Gets Try.prog (· = W.heap.size) (G ((base 31).at ⟨T, []⟩ [.code c12]) cs) W (G ((base 31).at ⟨T', []⟩ [.code rTail]) cs) (W.alloc (wgBlock link.tWg 0 0)) := by
  obtain ⟨f, rfl⟩ := hT
  have noE : ∀ X w, EvsP X w #[] := fun _ _ _ he => by simp at he
  rw [c12_eq]
  have key : ∀ (a : Act) (o : Oper) (u : Value) (W' : World), o12[0]? = some o → a.defers = [] → Region.wanted o (yielded o12 a.tmps) = true → (execOp a.eval o).run Try.prog W = .ok (.value u) W' → listed Try.prog 31 a o W = #[] → W.heap.size ≤ W'.heap.size →
      Gets Try.prog (· = W.heap.size) (G ((base 31).at a [.code (.seq (.region 12 o12 false) rTail)]) cs) W (G ((base 31).at (a.put o.dst u) [.code rTail]) cs) W' := by
    intro a o u W' ho ha hw hr hl hs
    refine .step rfl stepG_seq (noE _ _) (Nat.le_refl _) (.step rfl stepG_region (noE _ _) (Nat.le_refl _) ?_)
    rw [n12]
    simp only [List.range, List.range.loop]
    refine .step rfl (stepG_value (b := base _) ho hw (by intro h; cases h) hr) (by rw [show (base 31).fn = 31 from rfl, hl]; exact noE _ _) hs ?_
    exact .step rfl stepG_region_end (noE _ _) (Nat.le_refl _) (.refl _ _)
  refine ⟨_, fun E h1 h2 h3 h4 h5 h6 => ?_, key _ _ (.pointer (some ⟨W.heap.size, 0, none⟩)) _ (by simp only [o12, q12]; rfl) rfl rfl (by go_simp; rfl) (listed_nil (by go_simp)) (by simp)⟩
  subst h1 h3 h4 h5 h6
  refine ⟨fun i => if i = 12 then undef else f i, ?_⟩
  rw [h2]
  rfl

theorem range_get {n i j : Nat} (h : (List.range n)[i]? = some j) : i < n ∧ j = i := by
  obtain ⟨h1, h2⟩ := List.getElem?_eq_some_iff.1 h
  simp at h1 h2
  exact ⟨h1, h2.symm⟩
theorem envS_ok {N : Nat} {q : CL} {σ bd : Nat → Nat} {yv : Nat → Nat → Nat} {bp bdv bD bv h2 ba : Nat} {b2 : Nat → Nat} {B : Nat → Nat → F} {h0 : Nat → Option Obj} (hn : 1 ≤ K ∧ K ≤ N ∧ N ≤ 12 ∧ L < 5) (hx : ∀ t, t < K → q.ix (σ t) < N) (hy : ∀ i m, yv i m < 256) : EnvOk (envS K L q σ bd yv bp bdv bD bv h2 ba b2 B h0) K L := by
  refine ⟨by omega, by omega, by omega, by simp [envS], fun t _ => ⟨by simp [envS, LenIs], fun x hx => ?_⟩, fun c hc => ?_, fun t ht => ?_⟩
  · simp only [envS, List.mem_map] at hx
    obtain ⟨j, _, rfl⟩ := hx
    exact (B t j).isLt
  · simp only [envS, List.mem_map] at hc
    obtain ⟨j, _, rfl⟩ := hc
    refine ⟨by simp [colOf, LenIs], fun y hy' => ?_⟩
    simp only [colOf, List.mem_map] at hy'
    obtain ⟨m, _, rfl⟩ := hy'
    exact hy _ _
  · have := hx t ht
    show q.ix (σ t) < 128
    omega

theorem cell_alloc {W : World} {b o : Nat} {u : Value} (x : Obj) (h : W.cell? ⟨b, o, none⟩ = some u) : (W.alloc x).cell? ⟨b, o, none⟩ = some u := by
  have hb := cell_lt h
  simp only [World.cell?, Below.heap_alloc _ _ _ hb] at h ⊢
  exact h

theorem sf_start [Payload] (hpe : Payload.ety = 41) {Y : Nat → Option Obj} {w0 w2 v3 W : World} {N p Rb bc C : Nat} {q : CL} {σ bd : Nat → Nat} {yv : Nat → Nat → Nat} {bp bdv bD bv h2 ba : Nat} {b2 : Nat → Nat} {B : Nat → Nat → F} (hs : Sim NoX Y W v3) (hS : SolF w0 K N L yv p Rb bc q bd w2) (hb : Below w2.heap.size w2 v3) (hlow : ∀ b, b < w2.heap.size → b < C) (hP : PF31 K q σ bp bdv bD bv h2 ba C b2 B v3) :
    SF W.heap.size C K (W.heap.size + 1) L (envS K L q σ bd yv bp bdv bD bv h2 ba b2 B (fun b => (W.alloc (wgBlock link.tWg 0 0)).heap[b]?)) (W.heap.size + 1) 0 (gw (W.alloc (wgBlock link.tWg 0 0)) []) := by
  obtain ⟨n1, n2, n3, n4, n5, n6, n7, n8⟩ := hP.new
  have hsz := hs.size
  have st : ∀ {b o : Nat} {u : Value}, v3.cell? ⟨b, o, none⟩ = some u → (gw (W.alloc (wgBlock link.tWg 0 0)) []).cell? ⟨b, o, none⟩ = some u := fun {b o u} h => cell_alloc (wgBlock link.tWg 0 0) (sim_cell hs h)
  have lo : ∀ {b : Nat}, b < v3.heap.size → b ≠ C → Lo W.heap.size C (W.heap.size + 1) b := fun {b} h h' => ⟨by omega, by omega, h'⟩
  have la : Lo W.heap.size C (W.heap.size + 1) ba := lo (by omega) (by omega)
  have lv : Lo W.heap.size C (W.heap.size + 1) bv := lo (by omega) (by omega)
  have lW : Lo W.heap.size C (W.heap.size + 1) h2 := lo (by omega) (by omega)
  have ld : Lo W.heap.size C (W.heap.size + 1) bdv := lo (by omega) (by omega)
  have lD : Lo W.heap.size C (W.heap.size + 1) bD := lo (by omega) (by omega)
  have lp : Lo W.heap.size C (W.heap.size + 1) bp := lo (by omega) (by omega)
  have lr : ∀ t, t < K → Lo W.heap.size C (W.heap.size + 1) (b2 t) := fun t ht => lo (by have := n6 t ht; omega) (by have := n6 t ht; omega)
  have hcs : ∀ {t : Nat} {c : Col}, ((List.range K).map fun t => colOf q bd yv L (σ t))[t]? = some c → t < K ∧ c = colOf q bd yv L (σ t) := fun {t c} e => by
    rw [List.getElem?_map] at e
    obtain ⟨j', hj', rfl⟩ := Option.map_eq_some_iff.1 e
    obtain ⟨h1, rfl⟩ := range_get hj'
    exact ⟨h1, rfl⟩
  have hqL := hS.qL
  have hsz1 : (gw (W.alloc (wgBlock link.tWg 0 0)) []).heap.size = W.heap.size + 1 := by show (W.alloc _).heap.size = _; simp
  refine ⟨⟨?_, by omega, by omega, fun b hb => ?_⟩, ⟨madeCells #[.slice none 0 0] K, ?_, size_madeCells _ _⟩, ⟨la, lv, lW, ld, lD, lp, lr, st hP.va, st hP.vv, st hP.vd, fun t ht => ?_, fun t ht j x e => ?_, fun j c e => ?_, fun t ht => ?_, fun t c e => ?_, fun c hc => ?_, fun b _ _ _ => rfl⟩, ⟨by omega, by omega, by omega⟩, fun t c ht => absurd ht (by omega)⟩
  · unfold gw
    rw [tag_book]
    exact Nat.le_refl _
  · unfold gw at hb
    rw [own_book] at hb
    cases hb
  · rw [hpe]
    show (W.alloc _).heap[C]? = _
    rw [Below.heap_alloc _ _ _ (by omega)]
    exact sim_block hs hP.pay
  · simp only [envS, Nat.zero_add]
    exact st (hP.hW t ht)
  · simp only [envS, Nat.zero_add, List.getElem?_map] at e ⊢
    obtain ⟨j', hj', rfl⟩ := Option.map_eq_some_iff.1 e
    obtain ⟨h1, rfl⟩ := range_get hj'
    exact st (hP.hw t _ ht h1)
  · obtain ⟨h1, rfl⟩ := hcs e
    simp only [envS, colOf, Nat.zero_add]
    have := st (hP.hD j h1)
    rw [CL.d, hqL] at this
    exact this
  · simp only [envS, Nat.zero_add]
    exact st (hP.p0 t ht)
  · obtain ⟨h1, rfl⟩ := hcs e
    simp only [envS, colOf, Nat.zero_add]
    have := st (hP.p1 t h1)
    rw [CL.d, hqL] at this
    exact this
  · simp only [envS, List.mem_map, List.mem_range] at hc
    obtain ⟨t, ht, rfl⟩ := hc
    have hσ := hP.pl.lt t ht
    obtain ⟨d1, d2, d3⟩ := hS.data (σ t) hσ
    have := hlow _ d1
    refine ⟨lo (by show bd (σ t) < _; omega) (by show bd (σ t) ≠ C; omega), d2, fun i y e => ?_⟩
    simp only [colOf, List.getElem?_map, Nat.zero_add] at e ⊢
    obtain ⟨j', hj', rfl⟩ := Option.map_eq_some_iff.1 e
    obtain ⟨h1, rfl⟩ := range_get hj'
    exact st ((hb.cell (p := ⟨bd (σ t), _, none⟩) d1).trans (d3 _ h1))

theorem mix_dot (K : Nat) (r x : Nat → Nat) (R X : Nat → F) (hr : ∀ j, (R j).val = r j) (hx : ∀ j, (X j).val = x j) : ∀ n, mixN K r x n = (F.sum (List.range n) fun j => F.mu (R j) (X j)).val
  | 0 => rfl
  | n + 1 => by
    rw [sum_snoc, mixN, mix_dot K r x R X hr hx n, ← hr, ← hx]
    rfl
def yF (yv : Nat → Nat → Nat) (σ : Nat → Nat) (m j : Nat) : F := Fin.ofNat 256 (yv (σ j) m)
theorem yF_val {yv : Nat → Nat → Nat} (h : ∀ i m, yv i m < 256) (σ : Nat → Nat) (m j : Nat) : (yF yv σ m j).val = yv (σ j) m := Nat.mod_eq_of_lt (h _ _)
/-- The bytes that come out. -/
def xF (K : Nat) (B : Nat → Nat → F) (yv : Nat → Nat → Nat) (σ : Nat → Nat) (t m : Nat) : F := F.dot K (B t) (yF yv σ m)

section
variable {N : Nat} {q : CL} {σ bd : Nat → Nat} {yv : Nat → Nat → Nat} {bp bdv bD bv h2 ba C : Nat} {b2 : Nat → Nat} {B : Nat → Nat → F} {h0 : Nat → Option Obj}
theorem res_val (hy : ∀ i m, yv i m < 256) (t m : Nat) (hm : m < L) : ((envS K L q σ bd yv bp bdv bD bv h2 ba b2 B h0).res L t).getD m 0 = (xF K B yv σ t m).val := by
  have e : zsOf ((envS K L q σ bd yv bp bdv bD bv h2 ba b2 B h0).ws t) (envS K L q σ bd yv bp bdv bD bv h2 ba b2 B h0).cs = (List.range K).map fun j => ((B t j).val, (List.range L).map (yv (σ j))) := by
    simp only [zsOf, envS, List.map_map]
    exact List.zip_map'
  unfold Env.res
  rw [e, comb_get (fun j => (B t j).val) (fun j => (List.range L).map (yv (σ j))) L m hm (fun j => by simp) K]
  have e2 : (fun (j r : Nat) => r ^^^ mul (((List.range L).map (yv (σ j))).getD m 0) (B t j).val) = fun j r => r ^^^ mul (yF yv σ m j).val (B t j).val := by
    funext j r
    rw [yF_val hy]
    simp [hm]
  rw [e2, rec_dot K (B t) (yF yv σ m) K]
  rfl
theorem res_len (t : Nat) : ((envS K L q σ bd yv bp bdv bD bv h2 ba b2 B h0).res L t).length = L := by
  unfold Env.res
  rw [comb_length]
  simp
theorem here_val (hK : K ≤ 128) (hx : ∀ i, i < K → q.ix i < 128) (hpl : Placed K q.ix σ) (hg : ∃ A, F.Gj K (mF K fun s => q.ix (σ s)) K A B) {t : Nat} (ht : t < K) (e : q.ix (σ t) = t) (m : Nat) : xF K B yv σ t m = yF yv σ m t := by
  obtain ⟨A, hg⟩ := hg
  have h1 := F.gj_end hg (yF yv σ m) t ht
  rw [F.dot_unit ht ((mF_sq hK hpl hx).unit t ht (by rw [show (Fin.ofNat 256 (q.ix (σ t))).val = q.ix (σ t) from Nat.mod_eq_of_lt (by have := hx _ (hpl.lt t ht); omega), e]; exact ht)).2] at h1
  exact h1
theorem mix_val (hy : ∀ i m, yv i m < 256) (hpl : Placed K q.ix σ) (hg : ∃ A, F.Gj K (mF K fun s => q.ix (σ s)) K A B) {i m : Nat} (hi : i < K) : mixN K (rowV K (q.ix i)) (fun j => (xF K B yv σ j m).val) K = yv i m := by
  obtain ⟨A, hg⟩ := hg
  obtain ⟨t, ht, rfl⟩ := hpl.all i hi
  rw [mix_dot K _ _ (mF K (fun s => q.ix (σ s)) t) (fun j => xF K B yv σ j m) (fun j => Nat.mod_eq_of_lt rowV_lt) (fun _ => rfl) K]
  have h1 := F.gj_end hg (yF yv σ m) t ht
  have h2 := congrArg Fin.val h1
  rw [yF_val hy] at h2
  exact h2

theorem cell_up {W v : World} {Wg b o : Nat} {u : Value} (hk : ∀ b c t fr, some b ≠ some Wg → W.heap[b]? = some (.cells c t fr) → v.heap[b]? = some (.cells c t fr)) (hb : b ≠ Wg) (h : W.cell? ⟨b, o, none⟩ = some u) : v.cell? ⟨b, o, none⟩ = some u := by
  have h' := h
  unfold World.cell? at h'
  cases e : W.heap[b]? with
  | none => simp only [e] at h'; cases h'
  | some x =>
    cases x with
    | cells c t fr =>
      have := hk b c t fr (by simpa using hb) e
      simp only [World.cell?, e] at h
      simp only [World.cell?, this]
      exact h
    | _ => simp only [e] at h'; cases h'

theorem suf_of [Payload] {Y : Nat → Option Obj} {w0 w2 v3 W W' v' : World} {p Rb bc s0 : Nat} {l ids : List Nat} (hs : Sim NoX Y W v3) (hS : SolF w0 K N L yv p Rb bc q bd w2) (hb : Below w2.heap.size w2 v3) (hlow : ∀ b, b < w2.heap.size → b < C) (hP : PF31 K q σ bp bdv bD bv h2 ba C b2 B v3)
    (hk : ∀ b c t fr, some b ≠ some W.heap.size → W'.heap[b]? = some (.cells c t fr) → v'.heap[b]? = some (.cells c t fr)) (hwg : ∃ st sm, WgAt link.tWg W.heap.size W' st sm)
    (hF : SF W.heap.size C K (W.heap.size + 1) L (envS K L q σ bd yv bp bdv bD bv h2 ba b2 B (fun b => (W.alloc (wgBlock link.tWg 0 0)).heap[b]?)) s0 K (gw W' l)) (hids : ∀ x, x ∈ ids ↔ (envS K L q σ bd yv bp bdv bD bv h2 ba b2 B (fun b => (W.alloc (wgBlock link.tWg 0 0)).heap[b]?)).mis K x)
    (hres : ∀ x ∈ ids, ∃ v l', Has C x v W' ∧ WPr C L ((envS K L q σ bd yv bp bdv bD bv h2 ba b2 B (fun b => (W.alloc (wgBlock link.tWg 0 0)).heap[b]?)).res L) x v (gw W' l')) :
    (∃ dN, SufF K N L yv p Rb bc q bd C dN (fun t m => (xF K B yv σ t m).val) v') ∧ v'.cell? ⟨ba, 0, none⟩ = some (.slice (some ⟨C, 0, none⟩) K K) := by
  obtain ⟨n1, n2, n3, n4, n5, n6, n7, n8⟩ := hP.new
  have hn := hS.num
  have hsz := hs.size
  obtain ⟨sg, sm, hwg⟩ := hwg
  have up : ∀ {b o : Nat} {u : Value}, b ≠ W.heap.size → W'.cell? ⟨b, o, none⟩ = some u → v'.cell? ⟨b, o, none⟩ = some u := fun hb h => cell_up hk hb h
  have lw : ∀ {b o : Nat} {u : Value}, b < v3.heap.size → b ≠ C → v3.cell? ⟨b, o, none⟩ = some u → v'.cell? ⟨b, o, none⟩ = some u := fun {b o u} h h' hc => by
    refine up (by omega) ?_
    have e1 : W'.heap[b]? = (W.alloc (wgBlock link.tWg 0 0)).heap[b]? := hF.low.std b (by omega) (by omega) h'
    rw [Below.heap_alloc _ _ _ (by omega)] at e1
    have e2 := sim_cell hs hc
    simp only [World.cell?, e1] at e2 ⊢
    exact e2
  have l2 : ∀ {b o : Nat} {u : Value}, w2.cell? ⟨b, o, none⟩ = some u → v'.cell? ⟨b, o, none⟩ = some u := fun {b o u} hc => by
    have h1 := cell_lt hc
    have h2 := hlow _ h1
    exact lw (by omega) (by omega) ((hb.cell (p := ⟨b, o, none⟩) h1).trans hc)
  have hmem : ∀ t, t < K → ∃ N', v'.cell? ⟨C, t, none⟩ = some (.slice (some ⟨N', 0, none⟩) L L) ∧ ∀ m, m < L → v'.cell? ⟨N', m, none⟩ = some (.int .u8 (((xF K B yv σ t m).val : Nat) : Int)) := by
    intro t ht
    have fin : ∀ (N' : Nat) (xs : List Nat), W'.heap[N']? = some (.cells (bytesA xs) 5) → xs.length = L → (∀ m, m < L → xs.getD m 0 = (xF K B yv σ t m).val) → ∀ m, m < L → v'.cell? ⟨N', m, none⟩ = some (.int .u8 (((xF K B yv σ t m).val : Nat) : Int)) := by
      intro N' xs h1 h2 h3 m hm
      refine up (fun e => ?_) ?_
      · subst e
        unfold WgAt at hwg
        rw [h1] at hwg
        simp [wgBlock] at hwg
      · simp only [World.cell?, h1]
        rw [bytesA_get, List.getElem?_eq_getElem (by omega), Option.map_some, ← h3 m hm, List.getD_eq_getElem?_getD, List.getElem?_eq_getElem (by omega)]
        rfl
    by_cases e : q.ix (σ t) = t
    · have hc : (envS K L q σ bd yv bp bdv bD bv h2 ba b2 B (fun b => (W.alloc (wgBlock link.tWg 0 0)).heap[b]?)).cs[t]? = some (colOf q bd yv L (σ t)) := by
        show ((List.range K).map _)[t]? = _
        rw [List.getElem?_map, List.getElem?_range ht]
        rfl
      obtain ⟨N', _, _, _, h1, h2⟩ := hF.dn t _ ht (fun hm => hm.2 e) hc
      refine ⟨N', up (by omega) h1, fin N' _ h2 (by simp [colOf]) fun m hm => ?_⟩
      rw [here_val (by omega) (fun i hi => by have := hS.ixN i hi; omega) hP.pl hP.gj ht e, yF_val hS.yl]
      simp [colOf, hm]
    · obtain ⟨v, l', h1, N', rfl, _, _, h2⟩ := hres t ((hids t).2 ⟨ht, e⟩)
      exact ⟨N', up (by omega) h1, fin N' _ h2 (res_len t) fun m hm => res_val hS.yl t m hm⟩
  refine ⟨?_, lw (by omega) (by omega) hP.va⟩
  have hch : ∃ dN : Nat → Nat, ∀ t, t < K → v'.cell? ⟨C, t, none⟩ = some (.slice (some ⟨dN t, 0, none⟩) L L) ∧ ∀ m, m < L → v'.cell? ⟨dN t, m, none⟩ = some (.int .u8 (((xF K B yv σ t m).val : Nat) : Int)) := by
    refine ⟨fun t => if h : t < K then (hmem t h).choose else 0, fun t ht => ?_⟩
    simp only [dif_pos ht]
    exact (hmem t ht).choose_spec
  obtain ⟨dN, hd⟩ := hch
  refine ⟨dN, hS.num, l2 hS.par0, fun i hi => l2 (hS.head i hi), fun i j hi hj => l2 (hS.rows i j hi hj), fun i hi => l2 (hS.cols.c0 i hi), fun i hi => ?_, hS.ixN, fun i hi => (hS.data i hi).2.1, fun i m hi hm => l2 ((hS.data i hi).2.2 m hm), hS.yl, fun t ht => (hd t ht).1, fun t m ht hm => (hd t ht).2 m hm, fun t m => (xF K B yv σ t m).isLt, fun i m hi hm => mix_val hS.yl hP.pl hP.gj hi⟩
  have := l2 (hS.cols.c1 i hi)
  rw [CL.d, hS.qL] at this
  exact this
end
end
end Go.Proofs.Ytkpcmfgeanlcnaa

/-
  The statement, from its call to its return: alone up to the fork, beside the workers, beside those that leave.
-/
namespace Go.Proofs.Ytkpcmfgeanlcnaa
open Go.RowKit Go.Deep Go.Lf Go.Conc Go.ConcN Go.Gh
open Go.ConcR (Payload WgAt wgBlock)

/-- What was there stands. -/
structure Kept (w w' : World) : Prop where
  os : w'.os = w.os
  output : w'.output = w.output
  size : w.heap.size ≤ w'.heap.size
  block : ∀ b, b < w.heap.size → w'.heap[b]? = w.heap[b]?
theorem Sim.agree {X : Nat → Prop} {Y : Nat → Option Obj} {w w' v v' : World} (h : Sim X Y w v) (h' : Sim X Y w' v') {b : Nat} (hx : ¬ X b) (e : v'.heap[b]? = v.heap[b]?) : w'.heap[b]? = w.heap[b]? := by
  cases hy : Y b with
  | none => rw [h.same b hx hy, h'.same b hx hy, e]
  | some o =>
    obtain ⟨_, h1, _⟩ := h.gho b o hy
    obtain ⟨_, h2, _⟩ := h'.gho b o hy
    rw [h1, h2]
theorem no_ev {Wg : Nat} (w : World) (es : Array Event) (h : EvsP (fun b => some b = some Wg) w es) : ∀ e ∈ es, EvM (ShN Wg) e := by
  intro e he
  rcases h e he with ⟨a, wr, rfl, _, h3⟩ | ⟨r, wr, sy, rfl, _, _⟩ | rfl
  · refine ⟨fun x hx hs => ?_, by simp, by simp⟩
    simp only [MemAct.ofEvent, MemAct.touch?, Option.some.injEq] at hx
    subst hx
    obtain ⟨a', h4, h5⟩ := hs
    cases h4
    exact absurd (congrArg some h5) h3
  · refine ⟨fun x hx hs => ?_, by simp, by simp⟩
    obtain ⟨a', h4, _⟩ := hs
    cases wr <;> cases sy <;> simp only [MemAct.ofEvent, MemAct.touch?, Option.some.injEq, reduceCtorEq] at hx <;> (subst hx; cases h4)
  · exact ⟨fun x hx => by simp [MemAct.ofEvent, MemAct.touch?] at hx, by simp, by simp⟩
theorem misN_le (E : Env) : ∀ d j, misN E j d ≤ d
  | 0, _ => Nat.le_refl _
  | d + 1, j => by
    unfold misN
    have := misN_le E d (j + 1)
    split <;> omega

/-- Goroutine 0 stands at the fork. -/
def AtFork (Y : Nat → Option Obj) (v0 : World) (g : Goroutine) (W : World) : Prop :=
  ∃ (K N L p Rb bc cap : Nat) (yv : Nat → Nat → Nat) (q : CL) (bd : Nat → Nat) (T7 T18 T : Array Value) (σ : Nat → Nat) (bp bdv bD bv h2 ba C : Nat) (b2 : Nat → Nat) (B : Nat → Nat → F) (w2 v3 : World),
    g = G ((base 31).at ⟨T, []⟩ [.code c12]) [frame18 T18, frame7 T7] ∧ Sim NoX Y W v3 ∧ TSol p Rb N L bc K cap T7 ∧ T20 T18 ∧ TPre bp K bdv bv ba T ∧ PF31 K q σ bp bdv bD bv h2 ba C b2 B v3 ∧ (∀ b, b < w2.heap.size → b < C) ∧
    SolF v0 K N L yv p Rb bc q bd w2 ∧ SolF v0 K N L yv p Rb bc q bd v3 ∧ Below w2.heap.size w2 v3

theorem to_fork (vr vo : Value) (k n s : Int) (zr zo : List Int) (hk : In64 k) (hn : In64 n) (hs : In64 s) (v : World) (hr : Ints v vr zr) (ho : Ints v vo zo) (hlr : zr.length < 9223372036854775807) (hlo : zo.length < 9223372036854775807) {Y : Nat → Option Obj} {w : World} (hsim : Sim NoX Y w v) :
    ∃ g' W, AtFork Y v g' W ∧ Gets Try.prog NoX (G ((base 7).at ⟨#[vr, .int .i64 k, .int .i64 n, .int .i64 s, vo] ++ Array.replicate 187 undef, []⟩ [.code body7]) []) w g' W := by
  refine solved_pre (Y := Y) (Φ := AtFork Y v) vr vo k n s zr zo hk hn hs v hr ho hlr hlo ?_ w hsim
  intro K N L p Rb bc cap yv q bd T w1 hT hcap hS
  refine to_rebuild hT hS fun T7 hT7 => ?_
  refine to_inner hS fun T18 w2 hT18 hS2 => ?_
  refine rebuild_pre hcap hS2 fun σ bp bdv bD bv h2 ba C b2 B T w3 hTP hPF hlow hS3 hb3 => ?_
  refine rea_here fun W hW => ?_
  exact ⟨K, N, L, p, Rb, bc, cap, yv, q, bd, T7, T18, T, σ, bp, bdv, bD, bv, h2, ba, C, b2, B, w2, w3, rfl, hW, hT7, hT18, hTP, hPF, hlow, hS2, hS3, hb3⟩

set_option maxHeartbeats 1000000 in
set_option maxRecDepth 100000 in
theorem from_fork {Y : Nat → Option Obj} {w v W : World} {g0 g : Goroutine} (hsim : Sim NoX Y w v) (hat : AtFork Y v g W) (hG : Gets Try.prog NoX g0 w g W) : Ok Try.prog (fun v w' => v = .bool true ∧ Kept w w') (solo g0 w) #[] := by
  obtain ⟨K, N, L, p, Rb, bc, cap, yv, q, bd, T7, T18, T, σ, bp, bdv, bD, bv, h2, ba, C, b2, B, w2, v3, rfl, hW, hT7, hT18, hTP, hPF, hlow, hS2, hS3, hb3⟩ := hat
  obtain ⟨T', hTW, hG2⟩ := fork_alloc (cs := [frame18 T18, frame7 T7]) W hTP
  have hG3 := (hG.avoid (Nat.le_refl _)).trans hG2
  letI : Payload := ⟨41⟩
  letI : Out0 := ⟨W.output, W.os⟩
  have hn := hS2.num
  have hnew := hPF.new
  have hsz := hW.size
  have hEok : EnvOk (envS K L q σ bd yv bp bdv bD bv h2 ba b2 B (fun b => (W.alloc (wgBlock link.tWg 0 0)).heap[b]?)) K L := envS_ok hn (fun t ht => hS2.ixN _ (hPF.pl.lt t ht)) hS2.yl
  have hSF := sf_start rfl hW hS2 hb3 hlow hPF
  have hSp := sp_start (cs := [frame18 T18, frame7 T7]) hEok (hTW _ rfl rfl rfl rfl rfl rfl) hSF
  have hml := misN_le (envS K L q σ bd yv bp bdv bD bv h2 ba b2 B (fun b => (W.alloc (wgBlock link.tWg 0 0)).heap[b]?)) K 0
  refine wholeI (ty := link.tWg) hG3 (Nat.lt_succ_self _) (by omega) (by omega) (by simp) (by unfold WgAt; rw [heap_new]) hSF.pay hSp ⟨fun _ _ _ _ r h => WPr.rely h r, fun _ _ _ _ r h => KR.rely h r⟩ (by omega) rfl rfl ?_
  intro ids a W' l ho hos hwk hK hp hres
  obtain ⟨T1, s0, j, ops, rfl, hTS, hSF', hids⟩ := hK
  obtain ⟨Y', v', hs', hk'⟩ := doctor W' (some W.heap.size) (fun b h => by
    cases h
    obtain ⟨st, sm, hw⟩ := hwk
    exact ⟨_, _, _, hw⟩)
  obtain ⟨⟨dN, hSuf⟩, hba⟩ := suf_of hW hS2 hb3 hlow hPF hk' hwk hSF' hids hres
  refine back31 (X := fun b => some b = some W.heap.size) (Y := Y') no_ev hTS hba hT18 hT7 hSuf (fun T' v'' ht hal => ?_) W' hs'.t
  refine reaI_done (y := .bool true) (fun e he => by simp at he) rfl Try.func7 (by kernel_rfl) (fun u => ?_) (fun w'' d hst hend => ?_)
  · rw [Sem.runT_eq, results_tmp (fn := Try.f7) (t := 10) rfl _ _ _, events_results_tmp (fn := Try.f7) (t := 10) rfl _ _, ht]
  · refine ⟨rfl, #[], by simp, fun d' => ⟨.bool true, hend d', rfl, ?_⟩⟩
    obtain ⟨τ, dd, hst⟩ := hst
    have e1 : w''.heap.size = W'.heap.size := by rw [hst.size, hs'.size]; exact congrArg Array.size hal.1
    have e2 : W.heap.size + 1 ≤ W'.heap.size := Nat.le_trans hSF'.sb.2.1 hSF'.sb.2.2
    have e3 : w.heap.size ≤ W.heap.size := gets_size hG
    have e4 := hS3.below
    refine ⟨?_, ?_, by show w.heap.size ≤ w''.heap.size; omega, fun b hb => ?_⟩
    · show w''.os = w.os
      rw [hst.os, show ({ v'' with tape := τ, drawn := dd } : World).os = v''.os from rfl, hal.2.1, ← hs'.os, hos]
      show W.os = w.os
      rw [hW.os, e4.os, hsim.os]
    · show w''.output = w.output
      rw [hst.out, show ({ v'' with tape := τ, drawn := dd } : World).output = v''.output from rfl, hal.2.2, ← hs'.out, ho]
      show W.output = w.output
      rw [hW.out, e4.output, hsim.out]
    · show w''.heap[b]? = w.heap[b]?
      have hbw : b < v.heap.size := by rw [← hsim.size]; exact hb
      have hbC : b < C := hlow b (Nat.lt_of_lt_of_le hbw hS2.below.size)
      rw [Sim.agree hs' hst (fun e => by cases e; omega) (by show v''.heap[b]? = v'.heap[b]?; rw [hal.1])]
      rw [show W'.heap[b]? = (W.alloc (wgBlock link.tWg 0 0)).heap[b]? from hSF'.low.std b (by omega) (by omega) (by omega), Below.heap_alloc _ _ _ (by omega)]
      exact Sim.agree hsim hW id (e4.block b hbw)

set_option maxRecDepth 100000 in
theorem solved_ok (vr vo : Value) (k n s : Int) (zr zo : List Int) (hk : In64 k) (hn : In64 n) (hs : In64 s) (w : World) (hr : Ints w vr zr) (ho : Ints w vo zo) (hlr : zr.length < 9223372036854775807) (hlo : zo.length < 9223372036854775807) :
    Ok Try.prog (fun v w' => v = .bool true ∧ Kept w w') (solo (G (Frame.enter Try.prog 7 #[vr, .int .i64 k, .int .i64 n, .int .i64 s, vo] .normal) []) w) #[] := by
  obtain ⟨Y, v, hsim, hc⟩ := doctor w none (fun b h => by cases h)
  have hX : (fun b => some b = (none : Option Nat)) = NoX := funext fun b => propext ⟨fun h => (by cases h), fun h => h.elim⟩
  rw [hX] at hsim
  have hI : ∀ {u : Value} {zs : List Int}, Ints w u zs → Ints v u zs := fun {u zs} h => by
    refine ⟨h.in64, ?_⟩
    rcases h.lies with h1 | ⟨b, off, cap, h1, h2, h3⟩
    · exact .inl h1
    · refine .inr ⟨b, off, cap, h1, by rw [← hsim.size]; exact h2, fun j z hz => ?_⟩
      have h4 := h3 j z hz
      have h5 := h4
      unfold World.cell? at h5
      cases e : w.heap[b]? with
      | none => simp only [e] at h5; cases h5
      | some x =>
        cases x with
        | cells c t fr =>
          have := hc b c t fr (by simp) e
          simp only [World.cell?, e] at h4
          simp only [World.cell?, this]
          exact h4
        | _ => simp only [e] at h5; cases h5
  obtain ⟨g, W, hat, hG⟩ := to_fork vr vo k n s zr zo hk hn hs v (hI hr) (hI ho) hlr hlo hsim
  have e : Frame.enter Try.prog 7 #[vr, .int .i64 k, .int .i64 n, .int .i64 s, vo] .normal = (base 7).at ⟨#[vr, .int .i64 k, .int .i64 n, .int .i64 s, vo] ++ Array.replicate 187 undef, []⟩ [.code body7] := by
    rw [enter_at _ Try.func7 (c := body7) (by kernel_rfl), show Try.f7.ntmps - (#[vr, .int .i64 k, .int .i64 n, .int .i64 s, vo] : Array Value).size = 187 from by rw [Try.ntmps7]; rfl]
  rw [e]
  exact from_fork hsim hat hG
end Go.Proofs.Ytkpcmfgeanlcnaa
#print axioms Go.Proofs.Ytkpcmfgeanlcnaa.solved_ok

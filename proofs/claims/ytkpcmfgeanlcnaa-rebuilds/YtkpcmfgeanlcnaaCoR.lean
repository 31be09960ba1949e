/-
  In company: the starter's facts: what lies below, what it has laid into its places.
-/
import Derived.Test.YtkpcmfgeanlcnaaCoH
namespace Go.Proofs.Ytkpcmfgeanlcnaa
open Go.Conc Go.ConcN Go.RowKit Go.Gh
open Go.ConcR (Payload)

def Lo (Wg C B b : Nat) : Prop := b < B ∧ b ≠ Wg ∧ b ≠ C

/-- Where all lies: the variables answer, weights, data; the lists of weights, of columns, of what was placed. -/
structure Env where
  ba : Nat
  bv : Nat
  bW : Nat
  oW : Nat
  cW : Nat
  bd : Nat
  bD : Nat
  oD : Nat
  cD : Nat
  bp : Nat
  op : Nat
  cp : Nat
  br : Nat → Nat
  oR : Nat → Nat
  cR : Nat → Nat
  ws : Nat → List Nat
  px : Nat → Nat
  cs : List Col
  h0 : Nat → Option Obj

def Env.mis (E : Env) (k t : Nat) : Prop := t < k ∧ E.px t ≠ t
def Env.cap (E : Env) (bj idx : Nat) : Cap := { ba := E.ba, bj := bj, bv := E.bv, bW := E.bW, oW := E.oW, cW := E.cW, br := E.br idx, oR := E.oR idx, cR := E.cR idx, bd := E.bd, bD := E.bD, oD := E.oD, cD := E.cD }
def Env.res (E : Env) (L t : Nat) : List Nat := comb (zsOf (E.ws t) E.cs) (List.replicate L 0)

/-- What is so of the data. -/
structure EnvOk (E : Env) (k L : Nat) : Prop where
  k0 : 0 < k
  k1 : k ≤ 128
  hL : L ≤ 140737488355328
  len : E.cs.length = k
  wl : ∀ t, t < k → LenIs (E.ws t) k ∧ ∀ x ∈ E.ws t, x < 256
  cl : ∀ c ∈ E.cs, LenIs c.ys L ∧ ∀ y ∈ c.ys, y < 256
  pb : ∀ t, t < k → E.px t < 128

structure LowF (Wg C B k L : Nat) (E : Env) (w : World) : Prop where
  la : Lo Wg C B E.ba
  lv : Lo Wg C B E.bv
  lW : Lo Wg C B E.bW
  ld : Lo Wg C B E.bd
  lD : Lo Wg C B E.bD
  lp : Lo Wg C B E.bp
  lr : ∀ t, t < k → Lo Wg C B (E.br t)
  va : w.cell? ⟨E.ba, 0, none⟩ = some (.slice (some ⟨C, 0, none⟩) k k)
  vv : w.cell? ⟨E.bv, 0, none⟩ = some (.slice (some ⟨E.bW, E.oW, none⟩) k E.cW)
  vd : w.cell? ⟨E.bd, 0, none⟩ = some (.slice (some ⟨E.bD, E.oD, none⟩) k E.cD)
  vW : ∀ t, t < k → w.cell? ⟨E.bW, E.oW + t, none⟩ = some (.slice (some ⟨E.br t, E.oR t, none⟩) k (E.cR t))
  hw : ∀ t, t < k → ∀ j x, (E.ws t)[j]? = some x → w.cell? ⟨E.br t, E.oR t + j, none⟩ = some (.int .u8 ((x : Nat) : Int))
  hc : ∀ j c, E.cs[j]? = some c → w.cell? ⟨E.bD, E.oD + j, none⟩ = some (.slice c.bs L c.co)
  hp0 : ∀ t, t < k → w.cell? ⟨E.bp, E.op + t * 2, none⟩ = some (.int .i64 ((E.px t : Nat) : Int))
  hp1 : ∀ t c, E.cs[t]? = some c → w.cell? ⟨E.bp, E.op + t * 2 + 1, none⟩ = some (.slice c.bs L c.co)
  hcol : ∀ c ∈ E.cs, Lo Wg C B c.bo ∧ (0 < L → c.bs = some ⟨c.bo, c.oo, none⟩) ∧ ∀ i y, c.ys[i]? = some y → w.cell? ⟨c.bo, c.oo + i, none⟩ = some (.int .u8 ((y : Nat) : Int))
  std : ∀ b, b < B → b ≠ Wg → b ≠ C → w.heap[b]? = E.h0 b
theorem LowF.keep {Wg C B k L : Nat} {E : Env} {w w₁ : World} (h : LowF Wg C B k L E w) (st : ∀ b, b < B → b ≠ Wg → b ≠ C → w₁.heap[b]? = w.heap[b]?) : LowF Wg C B k L E w₁ := by
  have st0 := st
  have st : ∀ {b : Nat}, Lo Wg C B b → ∀ o, w₁.cell? ⟨b, o, none⟩ = w.cell? ⟨b, o, none⟩ := fun hb o => by simp only [World.cell?, st _ hb.1 hb.2.1 hb.2.2]
  exact ⟨h.la, h.lv, h.lW, h.ld, h.lD, h.lp, h.lr, (st h.la _).trans h.va, (st h.lv _).trans h.vv, (st h.ld _).trans h.vd, fun t ht => (st h.lW _).trans (h.vW t ht), fun t ht j x e => (st (h.lr t ht) _).trans (h.hw t ht j x e),
    fun j c e => (st h.lD _).trans (h.hc j c e), fun t ht => (st h.lp _).trans (h.hp0 t ht), fun t c e => (st h.lp _).trans (h.hp1 t c e), fun c hc => let ⟨h1, h2, h3⟩ := h.hcol c hc; ⟨h1, h2, fun i y e => (st h1 _).trans (h3 i y e)⟩, fun b h1 h2 h3 => (st0 b h1 h2 h3).trans (h.std b h1 h2 h3)⟩

section
variable [Payload] {main : Bool} {Wg C k B L : Nat} {E : Env}

/-- Behind so many places. -/
structure SF (Wg C k B L : Nat) (E : Env) (s0 j : Nat) (w : World) : Prop where
  bs : Bs C B w
  pay : PayAt C k w
  low : LowF Wg C B k L E w
  sb : C < s0 ∧ B ≤ s0 ∧ s0 ≤ w.heap.size
  dn : ∀ t c, t < j → ¬ E.mis k t → E.cs[t]? = some c → ∃ N, N < s0 ∧ Mine w N ∧ N ≠ C ∧ Has C t (.slice (some ⟨N, 0, none⟩) L L) w ∧ w.heap[N]? = some (.cells (bytesA c.ys) 5)

theorem SF.ex {s0 j : Nat} {w w₁ : World} {S : Nat → Prop} (h : SF Wg C k B L E s0 j w) (hb : Bs C B w₁) (r : Ex Wg C k B (fun i => ¬ E.mis k i) S w w₁) (hS : ∀ b, S b → s0 ≤ b) : SF Wg C k B L E s0 j w₁ := by
  refine ⟨hb, r.pay h.pay, h.low.keep r.low, ⟨h.sb.1, h.sb.2.1, Nat.le_trans h.sb.2.2 r.size⟩, fun t c ht hm hc => ?_⟩
  obtain ⟨N, h1, h2, h3, h4, h5⟩ := h.dn t c ht hm hc
  exact ⟨N, h1, r.own N h2, h3, (r.cell t hm).trans h4, (r.mine N h2 (fun hs => by have := hS N hs; omega)).trans h5⟩
theorem SF.rely {s0 j : Nat} {w w₁ : World} (h : SF Wg C k B L E s0 j w) (r : Ro Wg C k B (fun i => ¬ E.mis k i) w w₁) : SF Wg C k B L E s0 j w₁ := by
  refine ⟨h.bs.rely r, r.pay h.pay, h.low.keep r.low, ⟨h.sb.1, h.sb.2.1, Nat.le_trans h.sb.2.2 r.size⟩, fun t c ht hm hc => ?_⟩
  obtain ⟨N, h1, h2, h3, h4, h5⟩ := h.dn t c ht hm hc
  exact ⟨N, h1, (r.mineAt N).2 h2, h3, (r.cell t hm).trans h4, (r.mine N h2).trans h5⟩
/-- A new beginning. -/
theorem SF.base {s0 j : Nat} {w : World} (h : SF Wg C k B L E s0 j w) : SF Wg C k B L E w.heap.size j w := by
  refine ⟨h.bs, h.pay, h.low, ⟨h.bs.hC, h.bs.hB, Nat.le_refl _⟩, fun t c ht hm hc => ?_⟩
  obtain ⟨N, h1, h2, h3⟩ := h.dn t c ht hm hc
  exact ⟨N, h.bs.lt h2, h2, h3⟩

/-- Within a round: the variables j and c. -/
structure SG (Wg C k B L : Nat) (E : Env) (s0 j bj bc : Nat) (vj v0 v1 : Value) (w : World) : Prop where
  sf : SF Wg C k B L E s0 j w
  lj : s0 ≤ bj
  lc : s0 ≤ bc
  ne : bj ≠ bc
  mj : Mine w bj
  mc : Mine w bc
  hj : w.heap[bj]? = some (.cells #[vj] 3)
  hc : w.heap[bc]? = some (.cells #[v0, v1] 43)
theorem SG.rely {s0 j bj bc : Nat} {vj v0 v1 : Value} {w w₁ : World} (h : SG Wg C k B L E s0 j bj bc vj v0 v1 w) (r : Ro Wg C k B (fun i => ¬ E.mis k i) w w₁) : SG Wg C k B L E s0 j bj bc vj v0 v1 w₁ :=
  ⟨h.sf.rely r, h.lj, h.lc, h.ne, (r.mineAt _).2 h.mj, (r.mineAt _).2 h.mc, (r.mine _ h.mj).trans h.hj, (r.mine _ h.mc).trans h.hc⟩
structure SJ (Wg C k B L : Nat) (E : Env) (s0 j bj : Nat) (vj : Value) (w : World) : Prop where
  sf : SF Wg C k B L E s0 j w
  lj : s0 ≤ bj
  mj : Mine w bj
  hj : w.heap[bj]? = some (.cells #[vj] 3)
theorem SJ.rely {s0 j bj : Nat} {vj : Value} {w w₁ : World} (h : SJ Wg C k B L E s0 j bj vj w) (r : Ro Wg C k B (fun i => ¬ E.mis k i) w w₁) : SJ Wg C k B L E s0 j bj vj w₁ :=
  ⟨h.sf.rely r, h.lj, (r.mineAt _).2 h.mj, (r.mine _ h.mj).trans h.hj⟩
theorem SF.alloc {s0 j : Nat} {w : World} (h : SF Wg C k B L E s0 j w) (o : Obj) : SF Wg C k B L E s0 j (w.alloc o) :=
  h.ex (S := fun _ => False) (h.bs.alloc o) (Ex.alloc h.bs.hC h.bs.hB (fun _ hb => h.bs.lt hb) o) (fun _ => False.elim)
theorem SF.alloc1 {s0 j : Nat} {w : World} (h : SF Wg C k B L E s0 j w) (v : Value) : SJ Wg C k B L E s0 j w.heap.size v (w.alloc (.cells #[v] 3)) :=
  ⟨h.alloc _, h.sb.2.2, mine_fresh (w := w) (w' := w.alloc _) rfl h.bs.tg (Nat.le_refl _) (by rw [sz_alloc]; omega), by rw [heap_new]⟩
theorem SJ.alloc2 {s0 j bj : Nat} {vj : Value} {w : World} (h : SJ Wg C k B L E s0 j bj vj w) (v0 v1 : Value) : SG Wg C k B L E s0 j bj w.heap.size vj v0 v1 (w.alloc (.cells #[v0, v1] 43)) :=
  ⟨h.sf.alloc _, h.lj, h.sf.sb.2.2, Nat.ne_of_lt (h.sf.bs.lt h.mj), mine_grow (w := w) (w' := w.alloc _) rfl (by rw [sz_alloc]; omega) h.mj, mine_fresh (w := w) (w' := w.alloc _) rfl h.sf.bs.tg (Nat.le_refl _) (by rw [sz_alloc]; omega),
    (Below.heap_alloc _ _ _ (h.sf.bs.lt h.mj)).trans h.hj, by rw [heap_new]⟩
theorem SF.set {s0 j b o : Nat} {w : World} (h : SF Wg C k B L E s0 j w) (hb : s0 ≤ b) (v : Value) : SF Wg C k B L E s0 j (w.setCell ⟨b, o, none⟩ v) :=
  h.ex (S := fun x => s0 ≤ x) (h.bs.set _ _) (Ex.set (by have := h.sb.1; show b ≠ C; omega) hb (by have := h.sb.2.1; show ¬ (b < B ∧ _); omega)) (fun _ hx => hx)
theorem SG.setj {s0 j bj bc : Nat} {vj v0 v1 : Value} {w : World} (h : SG Wg C k B L E s0 j bj bc vj v0 v1 w) (v : Value) : SG Wg C k B L E s0 j bj bc v v0 v1 (w.setCell ⟨bj, 0, none⟩ v) :=
  ⟨h.sf.set h.lj v, h.lj, h.lc, h.ne, mine_grow (w := w) (w' := w.setCell _ _) rfl (by rw [sz_set]; omega) h.mj, mine_grow (w := w) (w' := w.setCell _ _) rfl (by rw [sz_set]; omega) h.mc, heap_set w h.hj 0 v, (Below.heap_setCell _ _ _ _ (Ne.symm h.ne)).trans h.hc⟩
theorem SG.setc {s0 j bj bc : Nat} {vj v0 v1 : Value} {w : World} (h : SG Wg C k B L E s0 j bj bc vj v0 v1 w) (u0 u1 : Value) : SG Wg C k B L E s0 j bj bc vj u0 u1 ((w.setCell ⟨bc, 0, none⟩ u0).setCell ⟨bc, 1, none⟩ u1) :=
  ⟨(h.sf.set h.lc u0).set h.lc u1, h.lj, h.lc, h.ne, mine_grow (w := w) (w' := (w.setCell ⟨bc, 0, none⟩ u0).setCell ⟨bc, 1, none⟩ u1) rfl (by rw [sz_set, sz_set]; omega) h.mj, mine_grow (w := w) (w' := (w.setCell ⟨bc, 0, none⟩ u0).setCell ⟨bc, 1, none⟩ u1) rfl (by rw [sz_set, sz_set]; omega) h.mc,
    (Below.heap_setCell _ _ _ _ h.ne).trans ((Below.heap_setCell _ _ _ _ h.ne).trans h.hj), heap_set _ (heap_set w h.hc 0 u0) 1 u1⟩
theorem SG.jC {s0 j bj bc : Nat} {vj v0 v1 : Value} {w : World} (h : SG Wg C k B L E s0 j bj bc vj v0 v1 w) : bj ≠ C := by have := h.lj; have := h.sf.sb.1; omega
theorem SG.cC {s0 j bj bc : Nat} {vj v0 v1 : Value} {w : World} (h : SG Wg C k B L E s0 j bj bc vj v0 v1 w) : bc ≠ C := by have := h.lc; have := h.sf.sb.1; omega
theorem SG.cj {s0 j bj bc : Nat} {vj v0 v1 : Value} {w : World} (h : SG Wg C k B L E s0 j bj bc vj v0 v1 w) : w.cell? ⟨bj, 0, none⟩ = some vj ∧ w.frozen? ⟨bj, 0, none⟩ = false := ⟨by rw [cell_of w h.hj]; rfl, thaw_of w h.hj 0⟩
theorem SG.cc {s0 j bj bc : Nat} {vj v0 v1 : Value} {w : World} (h : SG Wg C k B L E s0 j bj bc vj v0 v1 w) : (w.cell? ⟨bc, 0, none⟩ = some v0 ∧ w.cell? ⟨bc, 1, none⟩ = some v1) ∧ w.frozen? ⟨bc, 0, none⟩ = false ∧ w.frozen? ⟨bc, 1, none⟩ = false :=
  ⟨⟨by rw [cell_of w h.hc]; rfl, by rw [cell_of w h.hc]; rfl⟩, thaw_of w h.hc 0, thaw_of w h.hc 1⟩
theorem dg_set2 {n : Nat} {Cl : Nat → Prop} {w : World} {b : Nat} {u0 u1 : Value} (hm : Mine w b) (hne : b ≠ C) (hb : b < w.heap.size) {es : Array Event} (he : ∀ e ∈ es, ∃ a wr, e = ⟨.cell a, wr, false⟩ ∧ a.block = b) : Dg Wg C n B Cl w ((w.setCell ⟨b, 0, none⟩ u0).setCell ⟨b, 1, none⟩ u1) es := by
  have hx : ∀ x, x ≠ b → ((w.setCell ⟨b, 0, none⟩ u0).setCell ⟨b, 1, none⟩ u1).heap[x]? = w.heap[x]? := fun x hx => (Below.heap_setCell _ _ _ _ hx).trans (Below.heap_setCell _ _ _ _ hx)
  refine ⟨by rw [sz_set, sz_set]; omega, rfl, rfl, fun x _ hx' _ => hx x (fun e => hx' (e ▸ hm)), fun i _ => by simp only [World.cell?, hx C (Ne.symm hne)], fun ⟨cs, h1, h2⟩ => ⟨cs, (hx C (Ne.symm hne)).trans h1, h2⟩, fun e he' => ?_⟩
  obtain ⟨a, wr, rfl, ha⟩ := he e he'
  exact ⟨a, wr, rfl, by rw [sz_set, sz_set]; omega, .inl (by rw [ha]; exact hm)⟩
theorem SG.ex {s0 j bj bc : Nat} {vj v0 v1 : Value} {w w₁ : World} (h : SG Wg C k B L E s0 j bj bc vj v0 v1 w) (hb : Bs C B w₁) (r : Ex Wg C k B (fun i => ¬ E.mis k i) (fun _ => False) w w₁) : SG Wg C k B L E s0 j bj bc vj v0 v1 w₁ :=
  ⟨h.sf.ex hb r (fun _ => False.elim), h.lj, h.lc, h.ne, r.own _ h.mj, r.own _ h.mc, (r.mine _ h.mj id).trans h.hj, (r.mine _ h.mc id).trans h.hc⟩
/-- A copy is laid into its place. -/
theorem SF.cell {s0 j N : Nat} {w : World} {c : Col} (h : SF Wg C k B L E s0 j w) (hj : j < k) (hcj : E.cs[j]? = some c) (hm : Mine w N) (hN : N ≠ C) (hh : w.heap[N]? = some (.cells (bytesA c.ys) 5)) :
    SF Wg C k B L E w.heap.size (j + 1) (w.setCell ⟨C, j, none⟩ (.slice (some ⟨N, 0, none⟩) L L)) := by
  obtain ⟨arr, hp1, hp2⟩ := h.pay
  have hx : ∀ x, x ≠ C → (w.setCell ⟨C, j, none⟩ (.slice (some ⟨N, 0, none⟩) L L)).heap[x]? = w.heap[x]? := fun x hx => Below.heap_setCell _ _ _ _ hx
  have hg : ∀ b, Mine w b → Mine (w.setCell ⟨C, j, none⟩ (.slice (some ⟨N, 0, none⟩) L L)) b := fun b hb => mine_grow (w := w) (w' := w.setCell _ _) rfl (by rw [sz_set]; omega) hb
  refine ⟨h.bs.set _ _, ⟨_, heap_set w hp1 _ _, by simpa using hp2⟩, h.low.keep (fun b _ _ hb => hx b hb), ⟨h.bs.hC, h.bs.hB, by rw [sz_set]; omega⟩, fun t d ht hmt hd => ?_⟩
  by_cases htj : t = j
  · subst htj
    rw [hcj] at hd
    cases hd
    exact ⟨N, h.bs.lt hm, hg N hm, hN, cell_set ⟨arr, hp1, hp2⟩ hj _, (hx N hN).trans hh⟩
  · obtain ⟨N', h1, h2, h3, h4, h5⟩ := h.dn t d (by omega) hmt hd
    refine ⟨N', h.bs.lt h2, hg N' h2, h3, ?_, (hx N' h3).trans h5⟩
    simp only [Has, World.cell?, hp1] at h4
    simp only [Has, World.cell?, heap_set w hp1]
    rw [Array.getElem?_setIfInBounds_ne (fun e : j = t => htj e.symm)]
    exact h4
/-- The next book. -/
theorem SF.book {s0 j : Nat} {w : World} (h : SF Wg C k B L E s0 j w) (hj : E.mis k j) {l : List Nat} (hl : ∀ b ∈ l, b < w.heap.size) (hk : ∀ b, Mine w b → b < s0 → b ∈ l) : SF Wg C k B L E s0 (j + 1) (w.out (book w.heap.size l)) := by
  refine ⟨⟨by rw [tag_book]; exact Nat.le_refl _, h.bs.hC, h.bs.hB, fun b hb => by rw [own_book] at hb; exact hl b hb⟩, h.pay, h.low.keep (fun _ _ _ _ => rfl), h.sb, fun t c ht hm hc => ?_⟩
  by_cases htj : t = j
  · exact absurd (htj ▸ hj) hm
  · obtain ⟨N, h1, h2, h3, h4, h5⟩ := h.dn t c (by omega) hm hc
    exact ⟨N, h1, .inl (by rw [own_book]; exact hk N h2 h1), h3, h4, h5⟩
end
end Go.Proofs.Ytkpcmfgeanlcnaa

/-
  In company: the starter, round by round.
-/
import Derived.Test.YtkpcmfgeanlcnaaCoS
namespace Go.Proofs.Ytkpcmfgeanlcnaa
open Go.Conc Go.ConcN Go.RowKit Go.Gh Go.Conc.Lib Go.ConcR.Gen Go.ConcN.Gen
open Go.ConcR (Payload)

section
variable [Payload] {main : Bool} {Wg C k B L : Nat} {E : Env}


/-- The worker's world, as the starter leaves it. -/
theorem win_of (_hE : EnvOk E k L) {s0 j bj bc : Nat} {v0 v1 : Value} {w : World} (hj : j < k) (h : SG Wg C k B L E s0 j bj bc (.int .i64 ((j : Nat) : Int)) v0 v1 w) :
    WIn Wg C k B (E.cap bj j) k L j (E.ws j) E.cs (w.out (book w.heap.size [bj])) := by
  have hf := h.sf.low
  have lt : ∀ {b : Nat}, Lo Wg C B b → b < w.heap.size := fun hb => Nat.lt_of_lt_of_le hb.1 h.sf.bs.hB
  refine ⟨⟨by rw [tag_book]; exact Nat.le_refl _, h.sf.bs.hC, h.sf.bs.hB, fun b hb => by rw [own_book, List.mem_singleton] at hb; subst hb; exact h.sf.bs.lt h.mj⟩, h.sf.pay, .inr hf.la, hf.va, .inl (.inl (by rw [own_book]; exact List.mem_singleton.2 rfl)), h.cj.1,
    .inr hf.lv, hf.vv, .inr hf.lW, hf.vW j hj, .inr hf.ld, hf.vd, ⟨.inr (hf.lr j hj), lt (hf.lr j hj), .inr hf.lD, lt hf.lD, hf.hw j hj, hf.hc, fun c hc => ⟨.inr (hf.hcol c hc).1, lt (hf.hcol c hc).1, (hf.hcol c hc).2⟩⟩⟩

set_option maxRecDepth 100000 in
set_option maxHeartbeats 4000000 in
/-- A round's end. -/
theorem s_next {cs : List Frame} {j : Nat} (hj : j < k) (hk1 : k ≤ 128) (m : Nat) : ∃ n, ∀ (T : Array Value) (w : World) (s0 j' : Nat) (Stop : Goroutine → World → Prop), TS E Wg k j T → SF Wg C k B L E s0 j' w →
    (∀ T' w', TS E Wg k (j + 1) T' → SF Wg C k B L E s0 j' w' → (Goes Try.prog true (Ro Wg C k B (fun i => ¬ E.mis k i)) (Dg Wg C k B (fun i => ¬ E.mis k i))) Stop m (G ((base 31).at ⟨T', []⟩ (.code rLoop :: .inLoop rLoop :: .inBlock 2 :: [.code rEnd])) cs) w') →
    (Goes Try.prog true (Ro Wg C k B (fun i => ¬ E.mis k i)) (Dg Wg C k B (fun i => ¬ E.mis k i))) Stop n (G ((base 31).at ⟨T, []⟩ (.code (.region 20 o20 false) :: .inLoop rLoop :: .inBlock 2 :: [.code rEnd])) cs) w := by
  co_apply Exists.intro
  rintro T w s0 j' Stop ⟨v0, v1, v2, v3, v4, v5, v6, v8, v9, v13, v14, v15, v16, v17, v18, v19, v20, v21, v22, v23, v24, v25, v26, v27, v28, v29, v30, v31, v32, v33, v34, v35, v36, v37, v38, v39, v40, v41, v42, v43, v44, v45, v46, v50, v51, v52, v53, v54, v55, v56, v57, v58, v59, v60, v61, v62, v63, v64, v65, v66, v67, v68, rfl⟩ hF hcont
  have hw1 : IntKind.i64.wrap ((j : Int) + 1) = ((j + 1 : Nat) : Int) := by rw [IntKind.wrap_i64]; omega
  generalize [Item.inBlock 2, Item.code rEnd] = kk at hcont ⊢
  (co_apply Goes.step rfl; intro _ hRq; replace hF := SF.rely hF hRq; clear hRq; rw [stepG_region, n20]; simp only [goes_go, List.range, List.range.loop]; refine ⟨Terms.idle termsG _, ?_⟩; simp only [o20, q20])
  (co_apply Goes.step rfl; intro _ hRq; replace hF := SF.rely hF hRq; clear hRq
   refine goes_oper_k rfl rfl (by decide) (fun Kq hKq => ?_)
   (skip)
   go_simp
   try (unfold stored; go_simp)
   refine hKq _ _ ⟨?_, ?_⟩
   · (co_quiet termsG)
   clear hKq Kq
   try walk_nrm)
  (co_apply Goes.step rfl; intro _ hRq; replace hF := SF.rely hF hRq; clear hRq
   refine goes_oper_k rfl rfl (by decide) (fun Kq hKq => ?_)
   (skip)
   go_simp
   try (unfold stored; go_simp)
   refine hKq _ _ ⟨?_, ?_⟩
   · (co_quiet termsG)
   clear hKq Kq
   try walk_nrm)
  (co_apply Goes.step rfl; intro _ hRq; replace hF := SF.rely hF hRq; clear hRq; rw [stepG_region_end]; simp only [goes_go]; refine ⟨Terms.idle termsG _, ?_⟩)
  (co_apply Goes.step rfl; intro _ hRq; replace hF := SF.rely hF hRq; clear hRq; rw [stepG_inLoop]; simp only [goes_go]; refine ⟨Terms.idle termsG _, ?_⟩)
  exact hcont _ _ ⟨_, _, _, _, _, _, _, _, _, _, _, _, _, _, _, _, _, _, _, _, _, _, _, _, _, _, _, _, _, _, _, _, _, _, _, _, _, _, _, _, _, _, _, _, _, _, _, _, _, _, _, _, _, _, _, _, _, _, _, _, _, _, rfl⟩ hF

set_option maxRecDepth 100000 in
set_option maxHeartbeats 4000000 in
/-- What is missing: a worker is started. -/
theorem s_miss (hE : EnvOk E k L) {cs : List Frame} {j : Nat} (hj : j < k) (hmj : E.px j ≠ j) (r : Nat) {m1 : Nat}
    (ih : ∀ (T : Array Value) (w : World) (ids : List Nat) (s0 : Nat), TS E Wg k (j + 1) T → SF Wg C k B L E s0 (j + 1) w → (∀ x, x ∈ ids ↔ E.mis k x ∧ x < j + 1) → (Goes Try.prog true (Ro Wg C k B (fun i => ¬ E.mis k i)) (Dg Wg C k B (fun i => ¬ E.mis k i))) (StS Wg C k B L E cs r ids) m1 (G ((base 31).at ⟨T, []⟩ (.code rLoop :: .inLoop rLoop :: .inBlock 2 :: [.code rEnd])) cs) w) :
    ∃ n, ∀ (T : Array Value) (w : World) (ids : List Nat) (s0 bj bc : Nat) (v0 v1 : Value), TS2 E Wg k j bj bc T → SG Wg C k B L E s0 j bj bc (.int .i64 ((j : Nat) : Int)) v0 v1 w → (∀ x, x ∈ ids ↔ E.mis k x ∧ x < j) →
      (Goes Try.prog true (Ro Wg C k B (fun i => ¬ E.mis k i)) (Dg Wg C k B (fun i => ¬ E.mis k i))) (StS Wg C k B L E cs (r + 1) ids) n (G ((base 31).at ⟨T, []⟩ (.code rC57 :: .code rGo :: .inBlock 3 :: .code (.region 20 o20 false) :: .inLoop rLoop :: .inBlock 2 :: [.code rEnd])) cs) w := by
  obtain ⟨mw, hmw⟩ := works (Wg := Wg) (C := C) (B := B) k L hE.k0 hE.k1 hE.hL j hj
  obtain ⟨m2, hnext⟩ := s_next (Wg := Wg) (C := C) (k := k) (B := B) (L := L) (E := E) (cs := cs) hj hE.k1 m1
  co_apply Exists.intro
  rintro T w ids s0 bj bc v0x v1x ⟨v0, v1, v2, v3, v4, v5, v6, v8, v9, v15, v16, v17, v18, v19, v20, v21, v22, v23, v24, v25, v26, v27, v28, v29, v30, v31, v32, v33, v34, v35, v36, v37, v38, v39, v40, v41, v42, v43, v44, v45, v46, v50, v51, v52, v53, v54, v55, v56, v58, v59, v60, v61, v62, v63, v64, v65, v66, v67, v68, rfl⟩ hF hids
  have hdec : decide (((E.px j : Nat) : Int) = ((j : Nat) : Int)) = false := by simp; omega
  rw [hdec]
  generalize hkk : Item.inBlock 3 :: Item.code (Code.region 20 o20 false) :: Item.inLoop rLoop :: [Item.inBlock 2, Item.code rEnd] = kk
  unfold rC57 rGo
  (co_apply Goes.step rfl; intro _ hRq; replace hF := SG.rely hF hRq; clear hRq)
  rw [stepG_cond (t := false) rfl]
  simp only [goes_go, Bool.false_eq_true, if_false]
  refine ⟨Terms.idle termsG _, ?_⟩
  (co_apply Goes.step rfl; intro _ hRq; replace hF := SG.rely hF hRq; clear hRq; rw [stepG_skip]; simp only [goes_go]; refine ⟨Terms.idle termsG _, ?_⟩)
  (co_apply Goes.step rfl; intro _ hRq; replace hF := SG.rely hF hRq; clear hRq; rw [stepG_seq]; simp only [goes_go]; refine ⟨Terms.idle termsG _, ?_⟩)
  (co_apply Goes.step rfl; intro _ hRq; replace hF := SG.rely hF hRq; clear hRq; rw [stepG_region, n18]; simp only [goes_go, List.range, List.range.loop]; refine ⟨Terms.idle termsG _, ?_⟩; simp only [o18, q18])
  (co_apply Goes.step rfl; intro _ hRq; replace hF := SG.rely hF hRq; clear hRq)
  refine goes_call rfl rfl (by decide) rfl wgLib.f_add (nm_add link) rfl ⟨Terms.idle termsG _, ?_⟩
  walk_nrmf addFn
  refine Goes.stop (n := 0) fun w₁ hR => ?_
  replace hF := hF.rely hR
  clear hR
  have hA := fun (b₀ : Frame) (a₀ : Act) (ops₀ : Array Oper) (i₀ : Nat) (rest₀ : List Nat) (k₀ : List Item) => addW (L := link) (P := Try.prog) (Wg := Wg) (b₀ := b₀) (a₀ := a₀) (ops₀ := ops₀) (i₀ := i₀) (rest₀ := rest₀) (k₀ := k₀) (cs := cs) wgLib
  simp only [body_add, addFn, Option.getD_some] at hA
  refine ⟨rfl, _, 0 + 1 + 1 + 1, hA _ _ _ _ _ _, ?_⟩
  clear hA
  walk_nrm
  (co_apply Goes.step rfl; intro _ hRq; replace hF := SG.rely hF hRq; clear hRq; rw [stepG_region_end]; simp only [goes_go]; refine ⟨Terms.idle termsG _, ?_⟩)
  (co_apply Goes.step rfl; intro _ hRq; replace hF := SG.rely hF hRq; clear hRq; rw [stepG_region, n19]; simp only [goes_go, List.range, List.range.loop]; refine ⟨Terms.idle termsG _, ?_⟩; simp only [o19, q19])
  (co_apply Goes.step rfl; intro _ hRq; replace hF := SG.rely hF hRq; clear hRq
   refine goes_oper_k rfl rfl (by decide) (fun Kq hKq => ?_)
   (skip)
   go_simp
   try (unfold stored; go_simp)
   refine hKq _ _ ⟨?_, ?_⟩
   · (co_quiet termsG)
   clear hKq Kq
   try walk_nrm)
  refine Goes.stop (n := 0) fun w₂ r₂ => ?_
  replace hF := hF.rely r₂
  clear r₂
  refine ⟨rfl, ?_⟩
  rw [stepG_spawn (d := wcall Wg (E.cap bj j)) (w' := w₂) (f := .func 39) (c := caught Wg (E.cap bj j)) rfl rfl (by decide) (by simp [go_sem, wcall, caught, Env.cap, Deferred.ofValue]) rfl]
  generalize hL : listed _ _ _ _ _ = Lx
  have hLx : Lx = #[] := by
    rw [← hL]
    simp [listed, go_sem, seen, Deferred.ofValue]
    rfl
  subst hLx
  clear hL
  refine ⟨_, _, j, [bj], rfl, rfl, fun hx => by have := (hids j).1 hx; omega, ⟨hj, hmj⟩, fun b hb => by rw [List.mem_singleton] at hb; subst hb; exact hF.mj,
    ⟨mw, hmw _ _ _ _ _ (hE.wl j hj).1 hE.len (hE.wl j hj).2 hE.cl rfl (win_of hE hj hF)⟩, fun l' hl' => (sp_iff r _ _ _).2 ⟨m2 + 1 + 1, ?_⟩⟩
  walk_nrm
  have hS : SF Wg C k B L E s0 (j + 1) (w₂.out (book w₂.heap.size l')) := hF.sf.book ⟨hj, hmj⟩ (fun b hb => hF.sf.bs.lt ((hl' b).1 hb).1) (fun b hb hlt => (hl' b).2 ⟨hb, fun hx => by rw [List.mem_singleton] at hx; have := hF.lj; omega⟩)
  clear hF
  subst hkk
  (co_apply Goes.step rfl; intro _ hRq; replace hS := SF.rely hS hRq; clear hRq; rw [stepG_region_end]; simp only [goes_go]; refine ⟨Terms.idle termsG _, ?_⟩)
  (co_apply Goes.step rfl; intro _ hRq; replace hS := SF.rely hS hRq; clear hRq; rw [stepG_inBlock]; simp only [goes_go]; refine ⟨Terms.idle termsG _, ?_⟩)
  refine hnext _ _ s0 (j + 1) _ ⟨_, _, _, _, _, _, _, _, _, _, _, _, _, _, _, _, _, _, _, _, _, _, _, _, _, _, _, _, _, _, _, _, _, _, _, _, _, _, _, _, _, _, _, _, _, _, _, _, _, _, _, _, _, _, _, _, _, _, _, _, _, _, rfl⟩ hS (fun T' w' h1 h2 => ih T' w' (j :: ids) s0 h1 h2 (fun x => ?_))
  rw [List.mem_cons, hids]
  constructor
  · rintro (rfl | h)
    · exact ⟨⟨hj, hmj⟩, by omega⟩
    · exact ⟨h.1, by omega⟩
  · rintro ⟨h1, h2⟩
    by_cases hx : x = j
    · exact .inl hx
    · exact .inr ⟨h1, by omega⟩

set_option maxRecDepth 100000 in
set_option maxHeartbeats 4000000 in
/-- What is there: it is copied. -/
theorem s_copy (hE : EnvOk E k L) {cs : List Frame} {j : Nat} (hj : j < k) (hpj : E.px j = j) {c : Col} (hcj : E.cs[j]? = some c) (r : Nat) {m1 : Nat}
    (ih : ∀ (T : Array Value) (w : World) (ids : List Nat) (s0 : Nat), TS E Wg k (j + 1) T → SF Wg C k B L E s0 (j + 1) w → (∀ x, x ∈ ids ↔ E.mis k x ∧ x < j + 1) → (Goes Try.prog true (Ro Wg C k B (fun i => ¬ E.mis k i)) (Dg Wg C k B (fun i => ¬ E.mis k i))) (StS Wg C k B L E cs r ids) m1 (G ((base 31).at ⟨T, []⟩ (.code rLoop :: .inLoop rLoop :: .inBlock 2 :: [.code rEnd])) cs) w) :
    ∃ n, ∀ (T : Array Value) (w : World) (ids : List Nat) (s0 bj bc : Nat) (v0 : Value), TS2 E Wg k j bj bc T → SG Wg C k B L E s0 j bj bc (.int .i64 ((j : Nat) : Int)) v0 (.slice c.bs L c.co) w → (∀ x, x ∈ ids ↔ E.mis k x ∧ x < j) →
      (Goes Try.prog true (Ro Wg C k B (fun i => ¬ E.mis k i)) (Dg Wg C k B (fun i => ¬ E.mis k i))) (StS Wg C k B L E cs r ids) n (G ((base 31).at ⟨T, []⟩ (.code rC57 :: .code rGo :: .inBlock 3 :: .code (.region 20 o20 false) :: .inLoop rLoop :: .inBlock 2 :: [.code rEnd])) cs) w := by
  obtain ⟨q, hq⟩ := copyOf_c (main := true) (Wg := Wg) (C := C) (n := k) (B := B) (Cl := fun i => ¬ E.mis k i) L hE.hL
  obtain ⟨m2, hnext⟩ := s_next (Wg := Wg) (C := C) (k := k) (B := B) (L := L) (E := E) (cs := cs) hj hE.k1 m1
  have T := termsG (Wg := Wg) (C := C) (n := k) (B := B) (Cl := fun i => ¬ E.mis k i)
  have hcm := List.mem_of_getElem? hcj
  have hnm : ¬ E.mis k j := fun h => h.2 hpj
  co_apply Exists.intro
  rintro T' w ids s0 bj bc v0x ⟨v0, v1, v2, v3, v4, v5, v6, v8, v9, v15, v16, v17, v18, v19, v20, v21, v22, v23, v24, v25, v26, v27, v28, v29, v30, v31, v32, v33, v34, v35, v36, v37, v38, v39, v40, v41, v42, v43, v44, v45, v46, v50, v51, v52, v53, v54, v55, v56, v58, v59, v60, v61, v62, v63, v64, v65, v66, v67, v68, rfl⟩ hF hids
  have hdec : decide (((E.px j : Nat) : Int) = ((j : Nat) : Int)) = true := by rw [hpj]; simp
  have hiI : (j : Int) < (k : Int) := by omega
  rw [hdec]
  generalize hkk : Item.code rGo :: Item.inBlock 3 :: Item.code (Code.region 20 o20 false) :: Item.inLoop rLoop :: [Item.inBlock 2, Item.code rEnd] = kk
  unfold rC57
  (co_apply Goes.step rfl; intro _ hRq; replace hF := SG.rely hF hRq; clear hRq)
  rw [stepG_cond (t := true) rfl]
  simp only [goes_go, if_true]
  refine ⟨Terms.idle termsG _, ?_⟩
  (co_apply Goes.step rfl; intro _ hRq; replace hF := SG.rely hF hRq; clear hRq; rw [stepG_seq]; simp only [goes_go]; refine ⟨Terms.idle termsG _, ?_⟩)
  simp only [o17, q17]
  co_apply wpC_goes (Q := fun e a' w' => e = .normal ∧ a'.defers = [] ∧ TS E Wg k j a'.tmps ∧ ∃ s, SF Wg C k B L E s (j + 1) w') (wpC_region_any T drawG (S := SG Wg C k B L E s0 j bj bc (.int .i64 ((j : Nat) : Int)) v0x (.slice c.bs L c.co)) (lst := 6) (nf := q) (by kernel_rfl) ?any) rfl (by decide) ?cont
  case any =>
    intro w₁ h₁
    replace hF : SG Wg C k B L E s0 j bj bc (.int .i64 ((j : Nat) : Int)) v0x (.slice c.bs L c.co) { w₁ with drawn := w₁.drawn + 1 } := by
      have := hF.rely h₁
      exact ⟨⟨⟨this.sf.bs.tg, this.sf.bs.hC, this.sf.bs.hB, this.sf.bs.ow⟩, this.sf.pay, this.sf.low.keep (fun _ _ _ _ => rfl), this.sf.sb, this.sf.dn⟩, this.lj, this.lc, this.ne, this.mj, this.mc, this.hj, this.hc⟩
    clear h₁
    have hSR : ∀ x y, SG Wg C k B L E s0 j bj bc (.int .i64 ((j : Nat) : Int)) v0x (.slice c.bs L c.co) x → Ro Wg C k B (fun i => ¬ E.mis k i) x y → SG Wg C k B L E s0 j bj bc (.int .i64 ((j : Nat) : Int)) v0x (.slice c.bs L c.co) y := fun _ _ h r => h.rely r
    have hQR : ∀ (a : Act) (x y : World), (Exit.normal = .normal ∧ a.defers = [] ∧ TS E Wg k j a.tmps ∧ ∃ s, SF Wg C k B L E s (j + 1) x) → Ro Wg C k B (fun i => ¬ E.mis k i) x y → (Exit.normal = .normal ∧ a.defers = [] ∧ TS E Wg k j a.tmps ∧ ∃ s, SF Wg C k B L E s (j + 1) y) := fun a x y ⟨h1, h2, h3, s, h4⟩ r => ⟨h1, h2, h3, s, h4.rely r⟩
    generalize { w₁ with drawn := w₁.drawn + 1 } = w2 at hF ⊢
    simp only [List.size_toArray, List.length_cons, List.length_nil, Nat.reduceAdd, Nat.zero_add]
    (co_applyP anyX_take T hSR hQR (i := 0) rfl (by kernel_rfl) (by kernel_rfl) (by kernel_rfl) (by kernel_rfl) (by kernel_rfl) (.inl ⟨by rfl, fun _ hw => ⟨run_eq_of ?runq1, ?guarq1⟩⟩) hF ?restq1
     case runq1 =>
       intro Kq hKq
       (have h1 := hw.sf.low.va)
       go_simp
       exact hKq
     case guarq1 =>
       (have h1 := hw.sf.low.va)
       (refine dg_read (b := E.ba) (.inr hw.sf.low.la) (hw.sf.bs.rdb_lt (.inr hw.sf.low.la)) ?_; co_evs (exact ⟨_, rfl, rfl⟩))
     try walk_nrm)
    (co_applyP anyX_take T hSR hQR (i := 1) rfl (by kernel_rfl) (by kernel_rfl) (by kernel_rfl) (by kernel_rfl) (by kernel_rfl) (.inl ⟨by rfl, fun _ hw => ⟨run_eq_of ?runq2, ?guarq2⟩⟩) hF ?restq2
     case runq2 =>
       intro Kq hKq
       (have h1 := hw.cj.1)
       go_simp
       exact hKq
     case guarq2 =>
       (have h1 := hw.cj.1)
       (refine dg_read (.inl hw.mj) (hw.sf.bs.lt hw.mj) ?_; co_evs (exact ⟨_, rfl, rfl⟩))
     try walk_nrm)
    (co_applyP anyX_take T hSR hQR (i := 2) rfl (by kernel_rfl) (by kernel_rfl) (by kernel_rfl) (by kernel_rfl) (by kernel_rfl) (.inl ⟨by rfl, fun _ hw => ⟨run_eq_of ?runq3, ?guarq3⟩⟩) hF ?restq3
     case runq3 =>
       intro Kq hKq
       (skip)
       go_simp
       exact hKq
     case guarq3 =>
       (skip)
       (co_still T)
     try walk_nrm)
    (co_applyP anyX_take T hSR hQR (i := 3) rfl (by kernel_rfl) (by kernel_rfl) (by kernel_rfl) (by kernel_rfl) (by kernel_rfl) (.inl ⟨by rfl, fun _ hw => ⟨run_eq_of ?runq4, ?guarq4⟩⟩) hF ?restq4
     case runq4 =>
       intro Kq hKq
       (have h1 := hw.cc.1.2)
       go_simp
       exact hKq
     case guarq4 =>
       (have h1 := hw.cc.1.2)
       (refine dg_read (.inl hw.mc) (hw.sf.bs.lt hw.mc) ?_; co_evs (exact ⟨_, rfl, rfl⟩))
     try walk_nrm)
    have hcol := hF.sf.low.hcol c hcm
    refine anyX_one (i := 4) (by kernel_rfl) ⟨_, rfl, .inr (.inl ⟨by rfl, _, _, _, (fun v w' => ∃ N, v = .slice (some ⟨N, 0, none⟩) L L ∧ CG Wg C k B (fun i => ¬ E.mis k i) w2 N c.ys w'), rfl, by walk_nrm; exact hq w2 c.bs c.bo c.oo c.co c.ys hcol.2.1 (hE.cl c hcm).1 hF.sf.bs (.inr hcol.1) hcol.2.2, ?_⟩)⟩
    rintro v w' ⟨N, rfl, hg⟩
    have hN : N ≠ C := by have := hg.lo; have := hF.sf.bs.hC; omega
    replace hF := hF.ex hg.bs hg.ex
    have hx := And.intro hg.mn hg.hx
    clear hg
    refine ⟨fun _ => hF, ?_⟩
    walk_nrm
    refine anyX_one_k (i := 5) (by kernel_rfl) rfl (by rfl) (fun w₁ hR K hK => ?_)
    replace hF := hF.rely hR
    replace hx := And.intro ((hR.mineAt N).2 hx.1) ((hR.mine N hx.1).trans hx.2)
    clear hR
    go_simp
    refine hK _ _ ⟨?_, fun _ => hF, ?_⟩
    · co_still T
    clear hK K
    walk_nrm
    refine anyX_one_k (i := 6) (by kernel_rfl) rfl (by rfl) (fun w₁ hR K hK => ?_)
    replace hF := hF.rely hR
    replace hx := And.intro ((hR.mineAt N).2 hx.1) ((hR.mine N hx.1).trans hx.2)
    clear hR
    obtain ⟨u, hu1, hu2⟩ : ∃ u, w₁.cell? ⟨C, j, none⟩ = some u ∧ w₁.frozen? ⟨C, j, none⟩ = false := by
      obtain ⟨arr, h1, h2⟩ := hF.sf.pay
      exact ⟨arr[j]'(by omega), by simp [World.cell?, h1, h2, hj], by simp [World.frozen?, h1]⟩
    go_simp
    try (unfold stored; go_simp)
    refine hK _ _ ⟨?_, fun h => absurd rfl h, ?_⟩
    · refine dg_cell (Cl := fun i => ¬ E.mis k i) hF.sf.pay hF.sf.bs.hC (i := j) hnm _ ?_
      co_evs (exact ⟨_, rfl⟩)
    clear hK K
    walk_nrm
    exact anyX_done (by kernel_rfl) ⟨rfl, rfl, ⟨_, _, _, _, _, _, _, _, _, _, _, _, _, _, _, _, _, _, _, _, _, _, _, _, _, _, _, _, _, _, _, _, _, _, _, _, _, _, _, _, _, _, _, _, _, _, _, _, _, _, _, _, _, _, _, _, _, _, _, _, _, _, rfl⟩, _, hF.sf.cell hj hcj hx.1 hN hx.2⟩ _
  case cont =>
    rintro e a' w' ⟨rfl, hd, hT, s, hS⟩
    obtain ⟨T', ds⟩ := a'
    obtain rfl : ds = [] := hd
    show Goes _ _ _ _ _ _ (G ((base 31).at ⟨T', []⟩ (.code (.exit 3) :: kk)) cs) w'
    subst hkk
    (co_apply Goes.step rfl; intro _ hRq; replace hS := SF.rely hS hRq; clear hRq)
    refine goes_exit rfl ?_
    refine ⟨Terms.idle termsG _, ?_⟩
    refine hnext _ _ s (j + 1) _ hT hS (fun T' w' h1 h2 => ih T' w' ids s h1 h2 (fun x => ?_))
    rw [hids]
    constructor
    · rintro ⟨h1, h2⟩
      exact ⟨h1, by omega⟩
    · rintro ⟨h1, h2⟩
      by_cases hx : x = j
      · exact absurd (hx ▸ h1) hnm
      · exact ⟨h1, by omega⟩

/-- How many are missing from here on. -/
def misN (E : Env) : Nat → Nat → Nat
  | _, 0 => 0
  | j, d + 1 => if E.px j = j then misN E (j + 1) d else misN E (j + 1) d + 1

theorem spj (hE : EnvOk E k L) {cs : List Frame} : ∀ (d j : Nat), j + d = k → ∃ m, ∀ (T : Array Value) (w : World) (ids : List Nat) (s0 : Nat), TS E Wg k j T → SF Wg C k B L E s0 j w → (∀ x, x ∈ ids ↔ E.mis k x ∧ x < j) →
    (Goes Try.prog true (Ro Wg C k B (fun i => ¬ E.mis k i)) (Dg Wg C k B (fun i => ¬ E.mis k i))) (StS Wg C k B L E cs (misN E j d) ids) m (G ((base 31).at ⟨T, []⟩ (.code rLoop :: .inLoop rLoop :: .inBlock 2 :: [.code rEnd])) cs) w
  | 0, j, hd => by
    obtain rfl : j = k := by omega
    obtain ⟨m, hm⟩ := s_last (Wg := Wg) (C := C) (k := j) (B := B) (L := L) (E := E) (cs := cs)
    exact ⟨m, fun T w ids s0 hT hF hids => hm T w ids s0 hT hF (fun x => (hids x).trans ⟨fun h => h.1, fun h => ⟨h, h.1⟩⟩)⟩
  | d + 1, j, hd => by
    obtain ⟨m1, ih⟩ := spj hE d (j + 1) (by omega)
    have hj : j < k := by omega
    obtain ⟨c, hcj⟩ : ∃ c, E.cs[j]? = some c := ⟨E.cs[j]'(by rw [hE.len]; exact hj), by simp⟩
    by_cases hp : E.px j = j
    · obtain ⟨m2, h2⟩ := s_copy hE hj hp hcj (misN E (j + 1) d) ih
      obtain ⟨m3, h3⟩ := s_open (Wg := Wg) (C := C) (B := B) hE (cs := cs) hj hcj m2
      refine ⟨m3, fun T w ids s0 hT hF hids => h3 T w s0 _ hT hF fun T' w' s1 bj bc hT' hG => ?_⟩
      rw [misN, if_pos hp]
      exact h2 T' w' ids s1 bj bc _ hT' hG hids
    · obtain ⟨m2, h2⟩ := s_miss hE hj hp (misN E (j + 1) d) ih
      obtain ⟨m3, h3⟩ := s_open (Wg := Wg) (C := C) (B := B) hE (cs := cs) hj hcj m2
      refine ⟨m3, fun T w ids s0 hT hF hids => h3 T w s0 _ hT hF fun T' w' s1 bj bc hT' hG => ?_⟩
      rw [misN, if_neg hp]
      exact h2 T' w' ids s1 bj bc _ _ hT' hG hids
end
end Go.Proofs.Ytkpcmfgeanlcnaa

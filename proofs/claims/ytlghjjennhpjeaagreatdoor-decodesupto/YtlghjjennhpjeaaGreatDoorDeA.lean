/-
  In company: the starter, round by round.
-/
import Derived.Test.YtlghjjennhpjeaaGreatDoorCoS
import Derived.Test.YtlghjjennhpjeaaGreatDoorMul
import Derived.Test.YtlghjjennhpjeaaGreatDoorCoD
import Derived.Test.YtlghjjennhpjeaaGreatDoorLfM
import Derived.Test.YtlghjjennhpjeaaGreatDoorCoV
namespace Go.Proofs.YtlghjjennhpjeaaGreatDoor
open Go.Conc Go.ConcN Go.RowKit Go.Gh Go.Conc.Lib Go.ConcR.Gen Go.ConcN.Gen
open Go.ConcR (Payload)

section
variable [Payload] [OldG] {main : Bool} {Wg C k B L : Nat} {E : Env}


/-- The worker's world, as the starter leaves it. -/
theorem win_of (_hE : EnvOk E k L) {s0 j bj bc : Nat} {v0 v1 : Value} {w : World} (hj : j < k) (h : SG Wg C k B L E s0 j bj bc (.int .i64 ((j : Nat) : Int)) v0 v1 w) :
    WIn Wg C k B (E.cap bj j) k L j (E.ws j) E.cs (w.out (book w.heap.size [bj])) := by
  have hf := h.sf.low
  have lt : ∀ {b : Nat}, Lo Wg C B b → b < w.heap.size := fun hb => Nat.lt_of_lt_of_le hb.1 h.sf.bs.hB
  refine ⟨⟨by rw [tag_book]; exact Nat.le_refl _, h.sf.bs.hC, h.sf.bs.hB, fun b hb => by rw [own_book, List.mem_singleton] at hb; subst hb; exact h.sf.bs.lt h.mj⟩, h.sf.pay, .inr hf.la, hf.va, .inl (.inl (by rw [own_book]; exact List.mem_singleton.2 rfl)), h.cj.1,
    .inr hf.lv, hf.vv, .inr hf.lW, hf.vW j hj, .inr hf.ld, hf.vd, ⟨.inr (hf.lr j hj), lt (hf.lr j hj), .inr hf.lD, lt hf.lD, hf.hw j hj, hf.hc, fun c hc => ⟨.inr (hf.hcol c hc).1, lt (hf.hcol c hc).1, (hf.hcol c hc).2⟩⟩⟩

set_option maxRecDepth 100000 in
set_option maxHeartbeats 4000000 in
/-- A round's end. -/
theorem s_next {cs : List Frame} {j : Nat} (hj : j < k) (hk1 : k ≤ 128) (m : Nat) : ∃ n, ∀ (T : Array Value) (w : World) (s0 j' : Nat) (Stop : Goroutine → World → Prop), TS E Wg k j T → SF Wg C k B L E s0 j' w →
    (∀ T' w', TS E Wg k (j + 1) T' → SF Wg C k B L E s0 j' w' → (Goes Tryz.prog true (Ro Wg C k B (fun i => ¬ E.mis k i)) (Dg Wg C k B (fun i => ¬ E.mis k i))) Stop m (G ((base 52).at ⟨T', []⟩ (.code rLoop :: .inLoop rLoop :: .inBlock 2 :: [.code rEnd])) cs) w') →
    (Goes Tryz.prog true (Ro Wg C k B (fun i => ¬ E.mis k i)) (Dg Wg C k B (fun i => ¬ E.mis k i))) Stop n (G ((base 52).at ⟨T, []⟩ (.code (.region 20 o20 false) :: .inLoop rLoop :: .inBlock 2 :: [.code rEnd])) cs) w := by
  co_apply Exists.intro
  rintro T w s0 j' Stop ⟨v0, v1, v2, v3, v4, v5, v6, v8, v9, v13, v14, v15, v16, v17, v18, v19, v20, v21, v22, v23, v24, v25, v26, v27, v28, v29, v30, v31, v32, v33, v34, v35, v36, v37, v38, v39, v40, v41, v42, v43, v44, v45, v46, v50, v51, v52, v53, v54, v55, v56, v57, v58, v59, v60, v61, v62, v63, v64, v65, v66, v67, v68, rfl⟩ hF hcont
  have hw1 : IntKind.i64.wrap ((j : Int) + 1) = ((j + 1 : Nat) : Int) := by rw [IntKind.wrap_i64]; omega
  generalize [Item.inBlock 2, Item.code rEnd] = kk at hcont ⊢
  (co_apply Goes.step rfl; intro _ hRq; replace hF := SF.rely hF hRq; clear hRq; rw [stepG_region, n20]; simp only [goes_go, List.range, List.range.loop]; refine ⟨Terms.idle termsG _, ?_⟩; simp only [o20, q20])
  (co_apply Goes.step rfl; intro _ hRq; replace hF := SF.rely hF hRq; clear hRq
   refine goes_oper_k rfl rfl (by decide) (fun Kq hKq => ?_)
   (skip)
   go_simp
   try (unfold stored; go_simp)
   refine hKq _ _ ⟨?_, ?_⟩
   · (co_quiet termsG)
   clear hKq Kq
   try walk_nrm)
  (co_apply Goes.step rfl; intro _ hRq; replace hF := SF.rely hF hRq; clear hRq
   refine goes_oper_k rfl rfl (by decide) (fun Kq hKq => ?_)
   (skip)
   go_simp
   try (unfold stored; go_simp)
   refine hKq _ _ ⟨?_, ?_⟩
   · (co_quiet termsG)
   clear hKq Kq
   try walk_nrm)
  (co_apply Goes.step rfl; intro _ hRq; replace hF := SF.rely hF hRq; clear hRq; rw [stepG_region_end]; simp only [goes_go]; refine ⟨Terms.idle termsG _, ?_⟩)
  (co_apply Goes.step rfl; intro _ hRq; replace hF := SF.rely hF hRq; clear hRq; rw [stepG_inLoop]; simp only [goes_go]; refine ⟨Terms.idle termsG _, ?_⟩)
  exact hcont _ _ ⟨_, _, _, _, _, _, _, _, _, _, _, _, _, _, _, _, _, _, _, _, _, _, _, _, _, _, _, _, _, _, _, _, _, _, _, _, _, _, _, _, _, _, _, _, _, _, _, _, _, _, _, _, _, _, _, _, _, _, _, _, _, _, rfl⟩ hF

set_option maxRecDepth 100000 in
set_option maxHeartbeats 4000000 in
/-- What is missing: a worker is started. -/
theorem s_miss (hE : EnvOk E k L) {cs : List Frame} {j : Nat} (hj : j < k) (hmj : E.px j ≠ j) (r : Nat) {m1 : Nat}
    (ih : ∀ (T : Array Value) (w : World) (ids : List Nat) (s0 : Nat), TS E Wg k (j + 1) T → SF Wg C k B L E s0 (j + 1) w → (∀ x, x ∈ ids ↔ E.mis k x ∧ x < j + 1) → (Goes Tryz.prog true (Ro Wg C k B (fun i => ¬ E.mis k i)) (Dg Wg C k B (fun i => ¬ E.mis k i))) (StS Wg C k B L E cs r ids) m1 (G ((base 52).at ⟨T, []⟩ (.code rLoop :: .inLoop rLoop :: .inBlock 2 :: [.code rEnd])) cs) w) :
    ∃ n, ∀ (T : Array Value) (w : World) (ids : List Nat) (s0 bj bc : Nat) (v0 v1 : Value), TS2 E Wg k j bj bc T → SG Wg C k B L E s0 j bj bc (.int .i64 ((j : Nat) : Int)) v0 v1 w → (∀ x, x ∈ ids ↔ E.mis k x ∧ x < j) →
      (Goes Tryz.prog true (Ro Wg C k B (fun i => ¬ E.mis k i)) (Dg Wg C k B (fun i => ¬ E.mis k i))) (StS Wg C k B L E cs (r + 1) ids) n (G ((base 52).at ⟨T, []⟩ (.code rC57 :: .code rGo :: .inBlock 3 :: .code (.region 20 o20 false) :: .inLoop rLoop :: .inBlock 2 :: [.code rEnd])) cs) w := by
  obtain ⟨mw, hmw⟩ := works (Wg := Wg) (C := C) (B := B) k L hE.k0 hE.k1 hE.hL j hj
  obtain ⟨m2, hnext⟩ := s_next (Wg := Wg) (C := C) (k := k) (B := B) (L := L) (E := E) (cs := cs) hj hE.k1 m1
  co_apply Exists.intro
  rintro T w ids s0 bj bc v0x v1x ⟨v0, v1, v2, v3, v4, v5, v6, v8, v9, v15, v16, v17, v18, v19, v20, v21, v22, v23, v24, v25, v26, v27, v28, v29, v30, v31, v32, v33, v34, v35, v36, v37, v38, v39, v40, v41, v42, v43, v44, v45, v46, v50, v51, v52, v53, v54, v55, v56, v58, v59, v60, v61, v62, v63, v64, v65, v66, v67, v68, rfl⟩ hF hids
  have hdec : decide (((E.px j : Nat) : Int) = ((j : Nat) : Int)) = false := by simp; omega
  rw [hdec]
  generalize hkk : Item.inBlock 3 :: Item.code (Code.region 20 o20 false) :: Item.inLoop rLoop :: [Item.inBlock 2, Item.code rEnd] = kk
  unfold rC57 rGo
  (co_apply Goes.step rfl; intro _ hRq; replace hF := SG.rely hF hRq; clear hRq)
  rw [stepG_cond (t := false) rfl]
  simp only [goes_go, Bool.false_eq_true, if_false]
  refine ⟨Terms.idle termsG _, ?_⟩
  (co_apply Goes.step rfl; intro _ hRq; replace hF := SG.rely hF hRq; clear hRq; rw [stepG_skip]; simp only [goes_go]; refine ⟨Terms.idle termsG _, ?_⟩)
  (co_apply Goes.step rfl; intro _ hRq; replace hF := SG.rely hF hRq; clear hRq; rw [stepG_seq]; simp only [goes_go]; refine ⟨Terms.idle termsG _, ?_⟩)
  (co_apply Goes.step rfl; intro _ hRq; replace hF := SG.rely hF hRq; clear hRq; rw [stepG_region, n18]; simp only [goes_go, List.range, List.range.loop]; refine ⟨Terms.idle termsG _, ?_⟩; simp only [o18, q18])
  (co_apply Goes.step rfl; intro _ hRq; replace hF := SG.rely hF hRq; clear hRq)
  refine goes_call rfl rfl (by decide) rfl wgLib.f_add (nm_add link) rfl ⟨Terms.idle termsG _, ?_⟩
  walk_nrmf addFn
  refine Goes.stop (n := 0) fun w₁ hR => ?_
  replace hF := hF.rely hR
  clear hR
  have hA := fun (b₀ : Frame) (a₀ : Act) (ops₀ : Array Oper) (i₀ : Nat) (rest₀ : List Nat) (k₀ : List Item) => addW (L := link) (P := Tryz.prog) (Wg := Wg) (b₀ := b₀) (a₀ := a₀) (ops₀ := ops₀) (i₀ := i₀) (rest₀ := rest₀) (k₀ := k₀) (cs := cs) wgLib
  simp only [body_add, addFn, Option.getD_some] at hA
  refine ⟨rfl, _, 0 + 1 + 1 + 1, hA _ _ _ _ _ _, ?_⟩
  clear hA
  walk_nrm
  (co_apply Goes.step rfl; intro _ hRq; replace hF := SG.rely hF hRq; clear hRq; rw [stepG_region_end]; simp only [goes_go]; refine ⟨Terms.idle termsG _, ?_⟩)
  (co_apply Goes.step rfl; intro _ hRq; replace hF := SG.rely hF hRq; clear hRq; rw [stepG_region, n19]; simp only [goes_go, List.range, List.range.loop]; refine ⟨Terms.idle termsG _, ?_⟩; simp only [o19, q19])
  (co_apply Goes.step rfl; intro _ hRq; replace hF := SG.rely hF hRq; clear hRq
   refine goes_oper_k rfl rfl (by decide) (fun Kq hKq => ?_)
   (skip)
   go_simp
   try (unfold stored; go_simp)
   refine hKq _ _ ⟨?_, ?_⟩
   · (co_quiet termsG)
   clear hKq Kq
   try walk_nrm)
  refine Goes.stop (n := 0) fun w₂ r₂ => ?_
  replace hF := hF.rely r₂
  clear r₂
  refine ⟨rfl, ?_⟩
  rw [stepG_spawn (d := wcall Wg (E.cap bj j)) (w' := w₂) (f := .func 79) (c := caught Wg (E.cap bj j)) rfl rfl (by decide) (by simp [go_sem, wcall, caught, Env.cap, Deferred.ofValue]) rfl]
  generalize hL : listed _ _ _ _ _ = Lx
  have hLx : Lx = #[] := by
    rw [← hL]
    simp [listed, go_sem, seen, Deferred.ofValue]
    rfl
  subst hLx
  clear hL
  refine ⟨_, _, j, [bj], rfl, rfl, fun hx => by have := (hids j).1 hx; omega, ⟨hj, hmj⟩, fun b hb => by rw [List.mem_singleton] at hb; subst hb; exact hF.mj,
    ⟨mw, hmw _ _ _ _ _ (hE.wl j hj).1 hE.len (hE.wl j hj).2 hE.cl rfl (win_of hE hj hF)⟩, fun l' hl' => (sp_iff r _ _ _).2 ⟨m2 + 1 + 1, ?_⟩⟩
  walk_nrm
  have hS : SF Wg C k B L E s0 (j + 1) (w₂.out (book w₂.heap.size l')) := hF.sf.book ⟨hj, hmj⟩ (fun b hb => hF.sf.bs.lt ((hl' b).1 hb).1) (fun b hb hlt => (hl' b).2 ⟨hb, fun hx => by rw [List.mem_singleton] at hx; have := hF.lj; omega⟩)
  clear hF
  subst hkk
  (co_apply Goes.step rfl; intro _ hRq; replace hS := SF.rely hS hRq; clear hRq; rw [stepG_region_end]; simp only [goes_go]; refine ⟨Terms.idle termsG _, ?_⟩)
  (co_apply Goes.step rfl; intro _ hRq; replace hS := SF.rely hS hRq; clear hRq; rw [stepG_inBlock]; simp only [goes_go]; refine ⟨Terms.idle termsG _, ?_⟩)
  refine hnext _ _ s0 (j + 1) _ ⟨_, _, _, _, _, _, _, _, _, _, _, _, _, _, _, _, _, _, _, _, _, _, _, _, _, _, _, _, _, _, _, _, _, _, _, _, _, _, _, _, _, _, _, _, _, _, _, _, _, _, _, _, _, _, _, _, _, _, _, _, _, _, rfl⟩ hS (fun T' w' h1 h2 => ih T' w' (j :: ids) s0 h1 h2 (fun x => ?_))
  rw [List.mem_cons, hids]
  constructor
  · rintro (rfl | h)
    · exact ⟨⟨hj, hmj⟩, by omega⟩
    · exact ⟨h.1, by omega⟩
  · rintro ⟨h1, h2⟩
    by_cases hx : x = j
    · exact .inl hx
    · exact .inr ⟨h1, by omega⟩

set_option maxRecDepth 100000 in
set_option maxHeartbeats 4000000 in
/-- What is there: it is copied. -/
theorem s_copy (hE : EnvOk E k L) {cs : List Frame} {j : Nat} (hj : j < k) (hpj : E.px j = j) {c : Col} (hcj : E.cs[j]? = some c) (r : Nat) {m1 : Nat}
    (ih : ∀ (T : Array Value) (w : World) (ids : List Nat) (s0 : Nat), TS E Wg k (j + 1) T → SF Wg C k B L E s0 (j + 1) w → (∀ x, x ∈ ids ↔ E.mis k x ∧ x < j + 1) → (Goes Tryz.prog true (Ro Wg C k B (fun i => ¬ E.mis k i)) (Dg Wg C k B (fun i => ¬ E.mis k i))) (StS Wg C k B L E cs r ids) m1 (G ((base 52).at ⟨T, []⟩ (.code rLoop :: .inLoop rLoop :: .inBlock 2 :: [.code rEnd])) cs) w) :
    ∃ n, ∀ (T : Array Value) (w : World) (ids : List Nat) (s0 bj bc : Nat) (v0 : Value), TS2 E Wg k j bj bc T → SG Wg C k B L E s0 j bj bc (.int .i64 ((j : Nat) : Int)) v0 (.slice c.bs L c.co) w → (∀ x, x ∈ ids ↔ E.mis k x ∧ x < j) →
      (Goes Tryz.prog true (Ro Wg C k B (fun i => ¬ E.mis k i)) (Dg Wg C k B (fun i => ¬ E.mis k i))) (StS Wg C k B L E cs r ids) n (G ((base 52).at ⟨T, []⟩ (.code rC57 :: .code rGo :: .inBlock 3 :: .code (.region 20 o20 false) :: .inLoop rLoop :: .inBlock 2 :: [.code rEnd])) cs) w := by
  obtain ⟨q, hq⟩ := copyOf_c (main := true) (Wg := Wg) (C := C) (n := k) (B := B) (Cl := fun i => ¬ E.mis k i) L hE.hL
  obtain ⟨m2, hnext⟩ := s_next (Wg := Wg) (C := C) (k := k) (B := B) (L := L) (E := E) (cs := cs) hj hE.k1 m1
  have T := termsG (Wg := Wg) (C := C) (n := k) (B := B) (Cl := fun i => ¬ E.mis k i)
  have hcm := List.mem_of_getElem? hcj
  have hnm : ¬ E.mis k j := fun h => h.2 hpj
  co_apply Exists.intro
  rintro T' w ids s0 bj bc v0x ⟨v0, v1, v2, v3, v4, v5, v6, v8, v9, v15, v16, v17, v18, v19, v20, v21, v22, v23, v24, v25, v26, v27, v28, v29, v30, v31, v32, v33, v34, v35, v36, v37, v38, v39, v40, v41, v42, v43, v44, v45, v46, v50, v51, v52, v53, v54, v55, v56, v58, v59, v60, v61, v62, v63, v64, v65, v66, v67, v68, rfl⟩ hF hids
  have hdec : decide (((E.px j : Nat) : Int) = ((j : Nat) : Int)) = true := by rw [hpj]; simp
  have hiI : (j : Int) < (k : Int) := by omega
  rw [hdec]
  generalize hkk : Item.code rGo :: Item.inBlock 3 :: Item.code (Code.region 20 o20 false) :: Item.inLoop rLoop :: [Item.inBlock 2, Item.code rEnd] = kk
  unfold rC57
  (co_apply Goes.step rfl; intro _ hRq; replace hF := SG.rely hF hRq; clear hRq)
  rw [stepG_cond (t := true) rfl]
  simp only [goes_go, if_true]
  refine ⟨Terms.idle termsG _, ?_⟩
  (co_apply Goes.step rfl; intro _ hRq; replace hF := SG.rely hF hRq; clear hRq; rw [stepG_seq]; simp only [goes_go]; refine ⟨Terms.idle termsG _, ?_⟩)
  simp only [o17, q17]
  co_apply wpC_goes (Q := fun e a' w' => e = .normal ∧ a'.defers = [] ∧ TS E Wg k j a'.tmps ∧ ∃ s, SF Wg C k B L E s (j + 1) w') (wpC_region_any T drawG (S := SG Wg C k B L E s0 j bj bc (.int .i64 ((j : Nat) : Int)) v0x (.slice c.bs L c.co)) (lst := 6) (nf := q) (by kernel_rfl) ?any) rfl (by decide) ?cont
  case any =>
    intro w₁ h₁
    replace hF : SG Wg C k B L E s0 j bj bc (.int .i64 ((j : Nat) : Int)) v0x (.slice c.bs L c.co) { w₁ with drawn := w₁.drawn + 1 } := by
      have := hF.rely h₁
      exact ⟨⟨⟨this.sf.bs.tg, this.sf.bs.hC, this.sf.bs.hB, this.sf.bs.ow⟩, this.sf.pay, this.sf.low.keep (fun _ _ _ _ => rfl), this.sf.sb, this.sf.dn⟩, this.lj, this.lc, this.ne, this.mj, this.mc, this.hj, this.hc⟩
    clear h₁
    have hSR : ∀ x y, SG Wg C k B L E s0 j bj bc (.int .i64 ((j : Nat) : Int)) v0x (.slice c.bs L c.co) x → Ro Wg C k B (fun i => ¬ E.mis k i) x y → SG Wg C k B L E s0 j bj bc (.int .i64 ((j : Nat) : Int)) v0x (.slice c.bs L c.co) y := fun _ _ h r => h.rely r
    have hQR : ∀ (a : Act) (x y : World), (Exit.normal = .normal ∧ a.defers = [] ∧ TS E Wg k j a.tmps ∧ ∃ s, SF Wg C k B L E s (j + 1) x) → Ro Wg C k B (fun i => ¬ E.mis k i) x y → (Exit.normal = .normal ∧ a.defers = [] ∧ TS E Wg k j a.tmps ∧ ∃ s, SF Wg C k B L E s (j + 1) y) := fun a x y ⟨h1, h2, h3, s, h4⟩ r => ⟨h1, h2, h3, s, h4.rely r⟩
    generalize { w₁ with drawn := w₁.drawn + 1 } = w2 at hF ⊢
    simp only [List.size_toArray, List.length_cons, List.length_nil, Nat.reduceAdd, Nat.zero_add]
    (co_applyP anyX_take T hSR hQR (i := 0) rfl (by kernel_rfl) (by kernel_rfl) (by kernel_rfl) (by kernel_rfl) (by kernel_rfl) (.inl ⟨by rfl, fun _ hw => ⟨run_eq_of ?runq1, ?guarq1⟩⟩) hF ?restq1
     case runq1 =>
       intro Kq hKq
       (have h1 := hw.sf.low.va)
       go_simp
       exact hKq
     case guarq1 =>
       (have h1 := hw.sf.low.va)
       (refine dg_read (b := E.ba) (.inr hw.sf.low.la) (hw.sf.bs.rdb_lt (.inr hw.sf.low.la)) ?_; co_evs (exact ⟨_, rfl, rfl⟩))
     try walk_nrm)
    (co_applyP anyX_take T hSR hQR (i := 1) rfl (by kernel_rfl) (by kernel_rfl) (by kernel_rfl) (by kernel_rfl) (by kernel_rfl) (.inl ⟨by rfl, fun _ hw => ⟨run_eq_of ?runq2, ?guarq2⟩⟩) hF ?restq2
     case runq2 =>
       intro Kq hKq
       (have h1 := hw.cj.1)
       go_simp
       exact hKq
     case guarq2 =>
       (have h1 := hw.cj.1)
       (refine dg_read (.inl hw.mj) (hw.sf.bs.lt hw.mj) ?_; co_evs (exact ⟨_, rfl, rfl⟩))
     try walk_nrm)
    (co_applyP anyX_take T hSR hQR (i := 2) rfl (by kernel_rfl) (by kernel_rfl) (by kernel_rfl) (by kernel_rfl) (by kernel_rfl) (.inl ⟨by rfl, fun _ hw => ⟨run_eq_of ?runq3, ?guarq3⟩⟩) hF ?restq3
     case runq3 =>
       intro Kq hKq
       (skip)
       go_simp
       exact hKq
     case guarq3 =>
       (skip)
       (co_still T)
     try walk_nrm)
    (co_applyP anyX_take T hSR hQR (i := 3) rfl (by kernel_rfl) (by kernel_rfl) (by kernel_rfl) (by kernel_rfl) (by kernel_rfl) (.inl ⟨by rfl, fun _ hw => ⟨run_eq_of ?runq4, ?guarq4⟩⟩) hF ?restq4
     case runq4 =>
       intro Kq hKq
       (have h1 := hw.cc.1.2)
       go_simp
       exact hKq
     case guarq4 =>
       (have h1 := hw.cc.1.2)
       (refine dg_read (.inl hw.mc) (hw.sf.bs.lt hw.mc) ?_; co_evs (exact ⟨_, rfl, rfl⟩))
     try walk_nrm)
    have hcol := hF.sf.low.hcol c hcm
    refine anyX_one (i := 4) (by kernel_rfl) ⟨_, rfl, .inr (.inl ⟨by rfl, _, _, _, (fun v w' => ∃ N, v = .slice (some ⟨N, 0, none⟩) L L ∧ CG Wg C k B (fun i => ¬ E.mis k i) w2 N c.ys w'), rfl, by walk_nrm; exact hq w2 c.bs c.bo c.oo c.co c.ys hcol.2.1 (hE.cl c hcm).1 hF.sf.bs (.inr hcol.1) hcol.2.2, ?_⟩)⟩
    rintro v w' ⟨N, rfl, hg⟩
    have hN : N ≠ C ∧ B ≤ N := by have := hg.lo; have := hF.sf.bs.hC; have := hF.sf.bs.hB; omega
    replace hF := hF.ex hg.bs hg.ex
    have hx := And.intro hg.mn hg.hx
    clear hg
    refine ⟨fun _ => hF, ?_⟩
    walk_nrm
    refine anyX_one_k (i := 5) (by kernel_rfl) rfl (by rfl) (fun w₁ hR K hK => ?_)
    replace hF := hF.rely hR
    replace hx := And.intro ((hR.mineAt N).2 hx.1) ((hR.mine N hx.1).trans hx.2)
    clear hR
    go_simp
    refine hK _ _ ⟨?_, fun _ => hF, ?_⟩
    · co_still T
    clear hK K
    walk_nrm
    refine anyX_one_k (i := 6) (by kernel_rfl) rfl (by rfl) (fun w₁ hR K hK => ?_)
    replace hF := hF.rely hR
    replace hx := And.intro ((hR.mineAt N).2 hx.1) ((hR.mine N hx.1).trans hx.2)
    clear hR
    obtain ⟨u, hu1, hu2⟩ : ∃ u, w₁.cell? ⟨C, j, none⟩ = some u ∧ w₁.frozen? ⟨C, j, none⟩ = false := by
      obtain ⟨arr, h1, h2⟩ := hF.sf.pay
      exact ⟨arr[j]'(by omega), by simp [World.cell?, h1, h2, hj], by simp [World.frozen?, h1]⟩
    go_simp
    try (unfold stored; go_simp)
    refine hK _ _ ⟨?_, fun h => absurd rfl h, ?_⟩
    · refine dg_cell (Cl := fun i => ¬ E.mis k i) hF.sf.pay hF.sf.bs.hC (i := j) hnm _ ?_
      co_evs (exact ⟨_, rfl⟩)
    clear hK K
    walk_nrm
    exact anyX_done (by kernel_rfl) ⟨rfl, rfl, ⟨_, _, _, _, _, _, _, _, _, _, _, _, _, _, _, _, _, _, _, _, _, _, _, _, _, _, _, _, _, _, _, _, _, _, _, _, _, _, _, _, _, _, _, _, _, _, _, _, _, _, _, _, _, _, _, _, _, _, _, _, _, _, rfl⟩, _, hF.sf.cell hj hcj hx.1 hN hx.2⟩ _
  case cont =>
    rintro e a' w' ⟨rfl, hd, hT, s, hS⟩
    obtain ⟨T', ds⟩ := a'
    obtain rfl : ds = [] := hd
    show Goes _ _ _ _ _ _ (G ((base 52).at ⟨T', []⟩ (.code (.exit 3) :: kk)) cs) w'
    subst hkk
    (co_apply Goes.step rfl; intro _ hRq; replace hS := SF.rely hS hRq; clear hRq)
    refine goes_exit rfl ?_
    refine ⟨Terms.idle termsG _, ?_⟩
    refine hnext _ _ s (j + 1) _ hT hS (fun T' w' h1 h2 => ih T' w' ids s h1 h2 (fun x => ?_))
    rw [hids]
    constructor
    · rintro ⟨h1, h2⟩
      exact ⟨h1, by omega⟩
    · rintro ⟨h1, h2⟩
      by_cases hx : x = j
      · exact absurd (hx ▸ h1) hnm
      · exact ⟨h1, by omega⟩

/-- How many are missing from here on. -/
def misN (E : Env) : Nat → Nat → Nat
  | _, 0 => 0
  | j, d + 1 => if E.px j = j then misN E (j + 1) d else misN E (j + 1) d + 1

theorem spj (hE : EnvOk E k L) {cs : List Frame} : ∀ (d j : Nat), j + d = k → ∃ m, ∀ (T : Array Value) (w : World) (ids : List Nat) (s0 : Nat), TS E Wg k j T → SF Wg C k B L E s0 j w → (∀ x, x ∈ ids ↔ E.mis k x ∧ x < j) →
    (Goes Tryz.prog true (Ro Wg C k B (fun i => ¬ E.mis k i)) (Dg Wg C k B (fun i => ¬ E.mis k i))) (StS Wg C k B L E cs (misN E j d) ids) m (G ((base 52).at ⟨T, []⟩ (.code rLoop :: .inLoop rLoop :: .inBlock 2 :: [.code rEnd])) cs) w
  | 0, j, hd => by
    obtain rfl : j = k := by omega
    obtain ⟨m, hm⟩ := s_last (Wg := Wg) (C := C) (k := j) (B := B) (L := L) (E := E) (cs := cs)
    exact ⟨m, fun T w ids s0 hT hF hids => hm T w ids s0 hT hF (fun x => (hids x).trans ⟨fun h => h.1, fun h => ⟨h, h.1⟩⟩)⟩
  | d + 1, j, hd => by
    obtain ⟨m1, ih⟩ := spj hE d (j + 1) (by omega)
    have hj : j < k := by omega
    obtain ⟨c, hcj⟩ : ∃ c, E.cs[j]? = some c := ⟨E.cs[j]'(by rw [hE.len]; exact hj), by simp⟩
    by_cases hp : E.px j = j
    · obtain ⟨m2, h2⟩ := s_copy hE hj hp hcj (misN E (j + 1) d) ih
      obtain ⟨m3, h3⟩ := s_open (Wg := Wg) (C := C) (B := B) hE (cs := cs) hj hcj m2
      refine ⟨m3, fun T w ids s0 hT hF hids => h3 T w s0 _ hT hF fun T' w' s1 bj bc hT' hG => ?_⟩
      rw [misN, if_pos hp]
      exact h2 T' w' ids s1 bj bc _ hT' hG hids
    · obtain ⟨m2, h2⟩ := s_miss hE hj hp (misN E (j + 1) d) ih
      obtain ⟨m3, h3⟩ := s_open (Wg := Wg) (C := C) (B := B) hE (cs := cs) hj hcj m2
      refine ⟨m3, fun T w ids s0 hT hF hids => h3 T w s0 _ hT hF fun T' w' s1 bj bc hT' hG => ?_⟩
      rw [misN, if_neg hp]
      exact h2 T' w' ids s1 bj bc _ _ hT' hG hids
end
end Go.Proofs.YtlghjjennhpjeaaGreatDoor

/-
  coding.Rebuild up to its fork, beside those that leave.
-/
namespace Go.Proofs.YtlghjjennhpjeaaGreatDoor
open Go.RowKit Go.Deep Go.Lf Go.Conc

def cFst7 : Code → Code | .seq x _ => x | c => c
def cSnd7 : Code → Code | .seq _ y => y | c => c
def cOps7 : Code → Array Oper | .region _ o _ => o | _ => #[]
theorem sf31 : ∃ fn, Tryz.prog.funcs[52]? = some fn := ⟨_, Tryz.func52⟩
noncomputable def body31 : Code := Tryz.f52.body.getD .skip
noncomputable def c12 : Code := cSnd7 (cSnd7 (cSnd7 (cSnd7 (cSnd7 (cSnd7 (cSnd7 body31))))))

def mF (K : Nat) (px : Nat → Nat) (i j : Nat) : F := Fin.ofNat 256 (rowV K (px i) j)
theorem mF_fv (K : Nat) (px : Nat → Nat) (i j : Nat) : fv (mF K px i) j = .int .u8 ((rowV K (px i) j : Nat) : Int) := by
  unfold fv mF
  rw [show (Fin.ofNat 256 (rowV K (px i) j)).val = rowV K (px i) j from Nat.mod_eq_of_lt rowV_lt]
theorem mF_sq {K : Nat} {ix σ : Nat → Nat} (hK : K ≤ 128) (hP : Placed K ix σ) (hx : ∀ i, i < K → ix i < 128) : F.Sq K (fun s => Fin.ofNat 256 (ix (σ s))) (mF K fun s => ix (σ s)) := by
  have hv : ∀ s, s < K → (Fin.ofNat 256 (ix (σ s))).val = ix (σ s) := fun s hs => Nat.mod_eq_of_lt (by have := hx _ (hP.lt s hs); omega)
  refine ⟨fun s hs hlt => ?_, fun s hs hge j hj => ?_, fun s j hs hj hne e => ?_, by omega⟩
  · rw [hv s hs] at hlt ⊢
    have e := hP.on s hs hlt
    refine ⟨e, fun j _ => Fin.ext ?_⟩
    show rowV K (ix (σ s)) j % 256 = _
    rw [e, Nat.mod_eq_of_lt rowV_lt]
    unfold rowV
    rw [if_pos hs]
    split <;> rfl
  · rw [hv s hs] at hge
    refine Fin.ext ?_
    show rowV K (ix (σ s)) j % 256 = inv ((Fin.ofNat 256 (ix (σ s))).val ^^^ (Fin.ofNat 256 j).val)
    have hxj := hx _ (hP.lt s hs)
    rw [hv s hs, show (Fin.ofNat 256 j).val = j from Nat.mod_eq_of_lt (by omega), Nat.mod_eq_of_lt rowV_lt]
    unfold rowV
    rw [if_neg (by omega), Nat.mod_eq_of_lt (by have := xor_lt128 hxj (show j < 128 by omega); omega)]
  · have := congrArg Fin.val e
    rw [hv s hs, hv j hj] at this
    exact hP.inj s j hs hj hne this

/-- The rows and the data of what was placed, as far as they are made. -/
structure RD (w1 : World) (K t : Nat) (q : CL) (σ rb : Nat → Nat) (bR bD : Nat) (w : World) : Prop where
  rows : w.rowIs bR 24 K (fun i => if i < t then .slice (some ⟨rb i, 0, none⟩) K K else .slice none 0 0)
  dat : w.rowIs bD 24 K (fun i => if i < t then q.d (σ i) else .slice none 0 0)
  row : ∀ i, i < t → w.rowIs (rb i) 5 K (fun j => .int .u8 ((rowV K (q.ix (σ i)) j : Nat) : Int))
  inj : ∀ i j, i < t → j < t → i ≠ j → rb i ≠ rb j
  low : ∀ i, i < t → w1.heap.size ≤ rb i ∧ rb i < w.heap.size
  oth : Oth (fun b => b = bR ∨ b = bD) w1 w

def TPre (bp K bdv bv ba : Nat) (T : Array Value) : Prop := ∃ f : Nat → Value, T = #[f 0, f 1, f 2, f 3, f 4, .slice (some ⟨bp, 0, none⟩) K K, f 6, .pointer (some ⟨bdv, 0, none⟩), f 8, f 9, .pointer (some ⟨bv, 0, none⟩), .pointer (some ⟨ba, 0, none⟩), f 12, f 13, f 14, f 15, f 16, f 17, f 18, f 19, f 20, f 21, f 22, f 23, f 24, f 25, f 26, f 27, f 28, f 29, f 30, f 31, f 32, f 33, f 34, f 35, f 36, f 37, f 38, f 39, f 40, f 41, f 42, f 43, f 44, f 45, f 46, f 47, f 48, f 49, f 50, f 51, f 52, f 53, f 54, f 55, f 56, f 57, f 58, f 59, f 60, f 61, f 62, f 63, f 64, f 65, f 66, f 67, f 68]
theorem tpre_mk {bp K bdv bv ba : Nat} {T : Array Value} (h : T = #[T.getD 0 undef, T.getD 1 undef, T.getD 2 undef, T.getD 3 undef, T.getD 4 undef, .slice (some ⟨bp, 0, none⟩) K K, T.getD 6 undef, .pointer (some ⟨bdv, 0, none⟩), T.getD 8 undef, T.getD 9 undef, .pointer (some ⟨bv, 0, none⟩), .pointer (some ⟨ba, 0, none⟩), T.getD 12 undef, T.getD 13 undef, T.getD 14 undef, T.getD 15 undef, T.getD 16 undef, T.getD 17 undef, T.getD 18 undef, T.getD 19 undef, T.getD 20 undef, T.getD 21 undef, T.getD 22 undef, T.getD 23 undef, T.getD 24 undef, T.getD 25 undef, T.getD 26 undef, T.getD 27 undef, T.getD 28 undef, T.getD 29 undef, T.getD 30 undef, T.getD 31 undef, T.getD 32 undef, T.getD 33 undef, T.getD 34 undef, T.getD 35 undef, T.getD 36 undef, T.getD 37 undef, T.getD 38 undef, T.getD 39 undef, T.getD 40 undef, T.getD 41 undef, T.getD 42 undef, T.getD 43 undef, T.getD 44 undef, T.getD 45 undef, T.getD 46 undef, T.getD 47 undef, T.getD 48 undef, T.getD 49 undef, T.getD 50 undef, T.getD 51 undef, T.getD 52 undef, T.getD 53 undef, T.getD 54 undef, T.getD 55 undef, T.getD 56 undef, T.getD 57 undef, T.getD 58 undef, T.getD 59 undef, T.getD 60 undef, T.getD 61 undef, T.getD 62 undef, T.getD 63 undef, T.getD 64 undef, T.getD 65 undef, T.getD 66 undef, T.getD 67 undef, T.getD 68 undef]) : TPre bp K bdv bv ba T := ⟨fun i => T.getD i undef, h⟩

/-- What stands at the fork. -/
structure PF31 (K : Nat) (q : CL) (σ : Nat → Nat) (bp bdv bD bv h2 ba C : Nat) (b2 : Nat → Nat) (B : Nat → Nat → F) (w : World) : Prop where
  p0 : ∀ t, t < K → w.cell? ⟨bp, t * 2, none⟩ = some (.int .i64 ((q.ix (σ t) : Nat) : Int))
  p1 : ∀ t, t < K → w.cell? ⟨bp, t * 2 + 1, none⟩ = some (q.d (σ t))
  vd : w.cell? ⟨bdv, 0, none⟩ = some (.slice (some ⟨bD, 0, none⟩) K K)
  hD : ∀ t, t < K → w.cell? ⟨bD, t, none⟩ = some (q.d (σ t))
  vv : w.cell? ⟨bv, 0, none⟩ = some (.slice (some ⟨h2, 0, none⟩) K K)
  hW : ∀ t, t < K → w.cell? ⟨h2, t, none⟩ = some (.slice (some ⟨b2 t, 0, none⟩) K K)
  hw : ∀ t j, t < K → j < K → w.cell? ⟨b2 t, j, none⟩ = some (.int .u8 (((B t j).val : Nat) : Int))
  va : w.cell? ⟨ba, 0, none⟩ = some (.slice (some ⟨C, 0, none⟩) K K)
  pay : w.heap[C]? = some (.cells (madeCells #[.slice none 0 0] K) 24)
  new : bp < C ∧ bdv < C ∧ bD < C ∧ bv < C ∧ h2 < C ∧ (∀ t, t < K → b2 t < C) ∧ C < ba ∧ ba < w.heap.size
  gj : ∃ A, F.Gj K (mF K fun s => q.ix (σ s)) K A B
  pl : Placed K q.ix σ

/-- One more. -/
theorem RD.more {w1 w wa wb : World} {K t : Nat} {q : CL} {σ rb : Nat → Nat} {bR bD : Nat} (h : RD w1 K t q σ rb bR bD w) (ht : t < K) (hne : bR ≠ bD) (hbR : bR < w1.heap.size) (hbD : bD < w1.heap.size) (ha : Below w.heap.size w wa) (hr : NewRow wa wb K (rowV K (q.ix (σ t)))) :
    RD w1 K (t + 1) q σ (fun i => if i = t then wa.heap.size else rb i) bR bD ((wb.setCell ⟨bR, t, none⟩ (.slice (some ⟨wa.heap.size, 0, none⟩) K K)).setCell ⟨bD, t, none⟩ (q.d (σ t))) ∧
    (wb.cell? ⟨bR, t, none⟩ = some (.slice none 0 0) ∧ wb.frozen? ⟨bR, t, none⟩ = false) ∧ (wb.setCell ⟨bR, t, none⟩ (.slice (some ⟨wa.heap.size, 0, none⟩) K K)).cell? ⟨bD, t, none⟩ = some (.slice none 0 0) ∧ (wb.setCell ⟨bR, t, none⟩ (.slice (some ⟨wa.heap.size, 0, none⟩) K K)).frozen? ⟨bD, t, none⟩ = false := by
  have hsa := ha.size
  have hs1 := h.oth.size
  have hsb := hr.size
  have k : ∀ b, b < w.heap.size → wb.heap[b]? = w.heap[b]? := fun b hb => (hr.below.block b (by omega)).trans (ha.block b hb)
  have r1 := h.rows.of_block (k bR (by omega))
  have d1 := h.dat.of_block (k bD (by omega))
  have r2 := r1.set t (.slice (some ⟨wa.heap.size, 0, none⟩) K K)
  have d2 := d1.setOther (a := ⟨bR, t, none⟩) (fun e => hne e.symm) (.slice (some ⟨wa.heap.size, 0, none⟩) K K)
  have hrow : ∀ i, i < t + 1 → ((wb.setCell ⟨bR, t, none⟩ (.slice (some ⟨wa.heap.size, 0, none⟩) K K)).setCell ⟨bD, t, none⟩ (q.d (σ t))).rowIs (if i = t then wa.heap.size else rb i) 5 K (fun j => .int .u8 ((rowV K (q.ix (σ i)) j : Nat) : Int)) := fun i hi => by
    by_cases e : i = t
    · subst e
      rw [if_pos rfl]
      exact (hr.row.setOther (a := ⟨bR, i, none⟩) (by show wa.heap.size ≠ bR; omega) _).setOther (a := ⟨bD, i, none⟩) (by show wa.heap.size ≠ bD; omega) _
    · rw [if_neg e]
      have hl := h.low i (by omega)
      exact (((h.row i (by omega)).of_block (k (rb i) hl.2)).setOther (a := ⟨bR, t, none⟩) (by show rb i ≠ bR; omega) _).setOther (a := ⟨bD, t, none⟩) (by show rb i ≠ bD; omega) _
  refine ⟨⟨?_, ?_, hrow, fun i j hi hj hij => ?_, fun i hi => ?_, ?_⟩, ⟨?_, r1.frozen t⟩, ?_, d2.frozen t⟩
  · refine (r2.setOther (a := ⟨bD, t, none⟩) hne _).congr fun i hi => ?_
    by_cases e : i = t
    · rw [if_pos e, if_pos (by omega), if_pos e]
    · rw [if_neg e]
      by_cases e2 : i < t
      · rw [if_pos e2, if_pos (by omega), if_neg e]
      · rw [if_neg e2, if_neg (by omega)]
  · refine (d2.set t (q.d (σ t))).congr fun i hi => ?_
    by_cases e : i = t
    · rw [if_pos e, if_pos (by omega), e]
    · rw [if_neg e]
      by_cases e2 : i < t
      · rw [if_pos e2, if_pos (by omega)]
      · rw [if_neg e2, if_neg (by omega)]
  · by_cases e1 : i = t
    · rw [if_pos e1, if_neg (by omega)]
      have := (h.low j (by omega)).2
      omega
    · rw [if_neg e1]
      by_cases e2 : j = t
      · rw [if_pos e2]
        have := (h.low i (by omega)).2
        omega
      · rw [if_neg e2]
        exact h.inj i j (by omega) (by omega) hij
  · by_cases e : i = t
    · rw [if_pos e]
      simp
      omega
    · rw [if_neg e]
      have := h.low i (by omega)
      simp
      omega
  · exact (((h.oth.trans (S' := fun _ => False) (.below ha) (fun _ _ x => x.elim)).trans (S' := fun _ => False) (.below hr.below) (fun _ _ x => x.elim)).set (a := ⟨bR, t, none⟩) (.inl (.inl rfl)) _).set (a := ⟨bD, t, none⟩) (.inl (.inr rfl)) _
  · have := r1.cell ht
    rw [if_neg (by omega)] at this
    exact this
  · have := d2.cell ht
    rw [if_neg (by omega)] at this
    exact this

section
variable {X : Nat → Prop} {Y : Nat → Option Obj} {D : Nat → World → Array Event → Prop} {Stop : Goroutine → World → Prop} {w : World} {K bc cap : Nat} {q : CL}
set_option maxHeartbeats 4000000 in
set_option maxRecDepth 100000 in
theorem rebuild_gen (hD : Dok X D) {cs : List Frame} {M oc : Nat} (hK : 0 < K ∧ K ≤ 128) (hKM : K ≤ M) (hcap : M ≤ cap) (hx : ∀ i, i < K → q.ix i < 128) (hC : CO w bc oc K q) (hinj : ∀ i j, i < K → j < K → i ≠ j → q.ix i ≠ q.ix j)
    (hnext : ∀ (σ : Nat → Nat) (bp bdv bD bv h2 ba C : Nat) (b2 : Nat → Nat) (B : Nat → Nat → F) (T : Array Value) (w1 : World), TPre bp K bdv bv ba T → PF31 K q σ bp bdv bD bv h2 ba C b2 B w1 → (∀ b, b < w.heap.size → b < C) → (w.heap.size ≤ bp ∧ w.heap.size ≤ bdv ∧ w.heap.size ≤ bD ∧ w.heap.size ≤ bv ∧ w.heap.size ≤ h2 ∧ ∀ t, t < K → w.heap.size ≤ b2 t) → Bel w.heap.size w w1 → ReaI Tryz.prog X Y D Stop 52 cs [.code c12] ⟨T, []⟩ w1) :
    ReaI Tryz.prog X Y D Stop 52 cs [.code body31] ⟨#[.int .i64 (K : Int), .slice (some ⟨bc, oc, none⟩) M cap] ++ Array.replicate 67 undef, []⟩ w := by
  have hKc : (K : Int) ≤ (cap : Int) := by omega
  have one : ∀ (u : World) (x : Value), (u.alloc (.cells #[x] 23)).rowIs u.heap.size 23 1 (fun _ => x) := fun u x => World.rowIs_alloc u #[x] 23 (fun _ => x) (fun i hi => by
    obtain rfl : i = 0 := by simp at hi; omega
    rfl)
  have m1 := make_lists K (by omega)
  have mz := fun u : World => World.rowIs_made u (.slice none 0 0) K 24
  generalize hZ : madeCells #[.slice none 0 0] K = Z at m1 mz
  unfold body31
  simp only [Tryz.f52, Option.getD_some, Array.replicate_succ, Array.replicate_zero, List.push_toArray, List.append_toArray, List.nil_append, List.cons_append]
  refine reachI_go goodF hD (by kernel_rfl) rfl sf31 fun R hR τ d' => ?_
  have hCA : CO ({ w with tape := τ, drawn := d' } : World) bc oc K q := ⟨hC.lt, hC.c0, hC.c1⟩
  have hbA : Bel w.heap.size w { w with tape := τ, drawn := d' } := (Bel.refl _ w).tp τ d'
  generalize ({ w with tape := τ, drawn := d' } : World) = wA at hCA hbA ⊢
  go_wp2
  refine reachI_go goodF hD (by kernel_rfl) rfl sf31 fun R hR τ d' => ?_
  replace hCA : CO ({ wA with tape := τ, drawn := d' } : World) bc oc K q := ⟨hCA.lt, hCA.c0, hCA.c1⟩
  replace hbA := hbA.tp τ d'
  generalize ({ wA with tape := τ, drawn := d' } : World) = wA at hCA hbA ⊢
  have c1 := place_at K bc oc cap q wA (by omega) hx hCA hinj
  go_wp2_with (first | (go_at_call 74; (with_reducible refine c1.mono ?_); rintro e w1 ⟨σ, rfl, hP, hpl, hb1⟩))
  have hwA := hbA.size'
  have bl := hbA.trans (Bel.of hb1) hwA
  generalize hbp : wA.heap.size = bp at *
  clear hb1 hbp hCA hbA c1
  refine reachI_go goodF hD (by kernel_rfl) rfl sf31 fun R hR τ d' => ?_
  replace hpl : ({ w1 with tape := τ, drawn := d' } : World).rowIs _ _ _ _ := hpl
  replace bl := bl.tp τ d'
  generalize ({ w1 with tape := τ, drawn := d' } : World) = w1 at hpl bl ⊢
  have hpb := hpl.lt
  have m1' := m1 w1
  have z1 := mz w1
  have s1 : (w1.alloc (.cells Z 24)).heap.size = w1.heap.size + 1 := by simp
  have hb1 : Below w1.heap.size w1 (w1.alloc (.cells Z 24)) := (Below.refl _ _).alloc (Nat.le_refl _) _
  go_wp2
  have hpl1 := hpl.of_block (hb1.block bp hpb)
  have hsw := bl.size'
  replace bl := bl.trans (Bel.of hb1) hsw
  generalize w1.alloc (.cells Z 24) = w2 at z1 s1 hpl1 bl ⊢
  generalize hbR : w1.heap.size = bR at *
  clear hb1 m1' hpl hbR
  refine reachI_go goodF hD (by kernel_rfl) rfl sf31 fun R hR τ d' => ?_
  replace hpl1 : ({ w2 with tape := τ, drawn := d' } : World).rowIs _ _ _ _ := hpl1
  replace z1 : ({ w2 with tape := τ, drawn := d' } : World).rowIs _ _ _ _ := z1
  replace s1 : ({ w2 with tape := τ, drawn := d' } : World).heap.size = bR + 1 := s1
  replace bl := bl.tp τ d'
  generalize ({ w2 with tape := τ, drawn := d' } : World) = w2 at hpl1 z1 s1 bl ⊢
  have m2' := m1 w2
  have z2 := mz w2
  rw [s1] at m2' z2
  have s2 : (w2.alloc (.cells Z 24)).heap.size = bR + 2 := by simp [s1]
  have hb2 : Below (bR + 1) w2 (w2.alloc (.cells Z 24)) := (Below.refl _ _).alloc (by omega) _
  have y0 := one (w2.alloc (.cells Z 24)) (.slice (some ⟨bR + 1, 0, none⟩) K K)
  rw [s2] at y0
  have hb3 := hb2.alloc (by omega) (.cells #[.slice (some ⟨bR + 1, 0, none⟩) K K] 23)
  have s3 : ((w2.alloc (.cells Z 24)).alloc (.cells #[.slice (some ⟨bR + 1, 0, none⟩) K K] 23)).heap.size = bR + 3 := by simp [s1]
  have z2' := z2.alloc (.cells #[.slice (some ⟨bR + 1, 0, none⟩) K K] 23)
  have z1' := z1.of_block (hb3.block bR (by omega))
  have hpl3 := hpl1.of_block (hb3.block bp (by omega))
  go_wp2
  replace bl := bl.trans (Bel.of hb3) (by omega)
  generalize (w2.alloc (.cells Z 24)).alloc (.cells #[.slice (some ⟨bR + 1, 0, none⟩) K K] 23) = w3 at y0 s3 z2' z1' hpl3 bl ⊢
  clear z1 z2 m2' hb2 hb3 s1 s2 hpl1
  refine reachI_go goodF hD (by kernel_rfl) rfl sf31 fun R hR τ d' => ?_
  replace hpl3 : ({ w3 with tape := τ, drawn := d' } : World).rowIs _ _ _ _ := hpl3
  replace z1' : ({ w3 with tape := τ, drawn := d' } : World).rowIs _ _ _ _ := z1'
  replace z2' : ({ w3 with tape := τ, drawn := d' } : World).rowIs _ _ _ _ := z2'
  replace y0 : ({ w3 with tape := τ, drawn := d' } : World).rowIs _ _ _ _ := y0
  replace s3 : ({ w3 with tape := τ, drawn := d' } : World).heap.size = bR + 3 := s3
  replace bl := bl.tp τ d'
  generalize ({ w3 with tape := τ, drawn := d' } : World) = w3 at hpl3 z1' z2' y0 s3 bl ⊢
  have hRD0 : RD w3 K 0 q σ (fun _ => 0) bR (bR + 1) w3 := ⟨z1'.congr fun i _ => by rw [if_neg (by omega)], z2'.congr fun i _ => by rw [if_neg (by omega)], fun i h => absurd h (by omega), fun i j h => absurd h (by omega), fun i h => absurd h (by omega), Oth.refl _ _⟩
  clear z1' z2'
  go_wp2
  go_loopw [25] (fun vi wr => ∃ t : Nat, t ≤ K ∧ vi = .int .i64 (t : Int) ∧ ∃ rb, RD w3 K t q σ rb bR (bR + 1) wr) (fun i _ => K - (intOf i).toNat)
  case atStart => exact ⟨0, by omega, rfl, _, hRD0⟩
  case round =>
    clear hRD0
    obtain ⟨t, ht, rfl, rb, hRD⟩ := hrel
    by_cases hlt : t < K
    · have hlt' : (t : Int) < (K : Int) := by omega
      have hplr := hRD.oth.row hpl3.lt (by rintro (e | e) <;> omega) hpl3
      have y0r := hRD.oth.row y0.lt (by rintro (e | e) <;> omega) y0
      have g0 := hplr.cell (i := t * 2) (by omega)
      have g1 := hplr.cell (i := t * 2 + 1) (by omega)
      simp only [plF, show t * 2 / 2 = t by omega, show t * 2 % 2 = 0 by omega, show (t * 2 + 1) / 2 = t by omega, show (t * 2 + 1) % 2 = 1 by omega, cvv, if_true, Nat.one_ne_zero, if_false, CL.d] at g0 g1
      have hxt : q.ix (σ t) < 128 := hx (σ t) (hP.lt t hlt)
      have be1 := (Below.refl wr.heap.size wr).alloc (Nat.le_refl _) (.cells #[.int .i64 ((q.ix (σ t) : Nat) : Int), .slice (q.db (σ t)) q.L (q.dc (σ t))] 55)
      have n0 : (wr.alloc (.cells #[.int .i64 ((q.ix (σ t) : Nat) : Int), .slice (q.db (σ t)) q.L (q.dc (σ t))] 55)).rowIs wr.heap.size 55 2 (fun j => if j = 0 then .int .i64 ((q.ix (σ t) : Nat) : Int) else .slice (q.db (σ t)) q.L (q.dc (σ t))) :=
          World.rowIs_alloc wr #[.int .i64 ((q.ix (σ t) : Nat) : Int), .slice (q.db (σ t)) q.L (q.dc (σ t))] 55 _ (fun i hi => by
            have : i = 0 ∨ i = 1 := by simp at hi; omega
            rcases this with rfl | rfl <;> rfl)
      have y1 := y0r.alloc (.cells #[.int .i64 ((q.ix (σ t) : Nat) : Int), .slice (q.db (σ t)) q.L (q.dc (σ t))] 55)
      have hrd := fun wb => hRD.more (wb := wb) hlt (by omega) (by omega) (by omega) be1
      have c3 := row_any K (q.ix (σ t)) (by omega) hxt
      have hwl := hRD.oth.size
      have hMs : wr.heap.size < (wr.alloc (.cells #[.int .i64 ((q.ix (σ t) : Nat) : Int), .slice (q.db (σ t)) q.L (q.dc (σ t))] 55)).heap.size := by simp
      generalize hW1 : wr.alloc (.cells #[.int .i64 ((q.ix (σ t) : Nat) : Int), .slice (q.db (σ t)) q.L (q.dc (σ t))] 55) = W1 at n0 y1 hrd be1 hMs
      have a0 := n0.cell (i := 0) (by omega)
      have a1 := n0.cell (i := 1) (by omega)
      simp only [if_true, Nat.one_ne_zero, if_false] at a0 a1
      have fin : ∀ W2, NewRow W1 W2 K (rowV K (q.ix (σ t))) → (W2.cell? ⟨bR, t, none⟩ = some (.slice none 0 0) ∧ W2.frozen? ⟨bR, t, none⟩ = false) ∧ ∃ W3, W2.setCell ⟨bR, t, none⟩ (.slice (some ⟨W1.heap.size, 0, none⟩) K K) = W3 ∧ W3.cell? ⟨bR + 2, 0, none⟩ = some (.slice (some ⟨bR + 1, 0, none⟩) K K) ∧ W3.cell? ⟨wr.heap.size, 1, none⟩ = some (.slice (q.db (σ t)) q.L (q.dc (σ t))) ∧ W3.cell? ⟨bR + 1, t, none⟩ = some (.slice none 0 0) ∧ W3.frozen? ⟨bR + 1, t, none⟩ = false ∧ RD w3 K (t + 1) q σ (fun i => if i = t then W1.heap.size else rb i) bR (bR + 1) (W3.setCell ⟨bR + 1, t, none⟩ (.slice (q.db (σ t)) q.L (q.dc (σ t)))) := fun W2 hW2 => by
        obtain ⟨h1, h2, h3, h4⟩ := hrd W2 hW2
        refine ⟨h2, _, rfl, ?_, ?_, h3, h4, h1⟩
        · exact ((y1.of_block (hW2.below.block _ y1.lt)).setOther (a := ⟨bR, t, none⟩) (by show bR + 2 ≠ bR; omega) _).cell (i := 0) (by omega)
        · have := ((n0.of_block (hW2.below.block _ n0.lt)).setOther (a := ⟨bR, t, none⟩) (by show wr.heap.size ≠ bR; omega) (.slice (some ⟨W1.heap.size, 0, none⟩) K K)).cell (i := 1) (by omega)
          exact this
      clear hrd hplr y0r y1 n0 hpl3 y0
      go_wp2_with (first | (go_at_call 75; (with_reducible refine (c3 _).mono ?_); rintro e W2 ⟨rfl, hW2⟩; obtain ⟨⟨e1, e2⟩, W3, hW3, e3, e4, e5, e6, hRD2⟩ := fin W2 hW2; clear fin))
      go_roundw
      case rel => exact ⟨t + 1, by omega, by go_num, _, hRD2⟩
      case measure => simp [intOf]; omega
    · obtain rfl : t = K := by omega
      have hnl : ¬ ((t : Int) < (t : Int)) := by omega
      have hpl4 := hRD.oth.row hpl3.lt (by rintro (e | e) <;> omega) hpl3
      have y4 := hRD.oth.row y0.lt (by rintro (e | e) <;> omega) y0
      have hMat : Mat wr bR t rb (mF t fun s => q.ix (σ s)) := ⟨hRD.rows.congr fun i hi => by rw [if_pos hi], fun i hi => (hRD.row i hi).congr fun j _ => by rw [mF_fv], fun i j hi hj hne => hRD.inj i j hi hj hne, fun i hi => by have := (hRD.low i hi).1; omega⟩
      have hdat := hRD.dat
      have hbw : Bel w.heap.size w wr := ⟨hRD.oth.os.trans bl.os, rfl, hRD.oth.output.trans bl.output, by have := hRD.oth.size; have := bl.size'; show w.heap.size ≤ _; omega, fun b hb => by
          have hb' : b < w.heap.size := hb
          have e1 := hRD.oth.block b (by omega) (by rintro (e | e) <;> omega)
          exact e1.trans (bl.block b hb)⟩
      have hrbl := fun i hi => (hRD.low i hi).1
      have hsz := hRD.oth.size
      clear hRD bl
      go_wp2
      refine reachI_go goodF hD (by kernel_rfl) rfl sf31 fun R hR τ d' => ?_
      replace hMat : Mat ({ wr with tape := τ, drawn := d' } : World) bR t rb (mF t fun s => q.ix (σ s)) := hMat.heap rfl
      replace hpl4 : ({ wr with tape := τ, drawn := d' } : World).rowIs _ _ _ _ := hpl4
      replace y4 : ({ wr with tape := τ, drawn := d' } : World).rowIs _ _ _ _ := y4
      replace hdat : ({ wr with tape := τ, drawn := d' } : World).rowIs _ _ _ _ := hdat
      replace hbw := hbw.tp τ d'
      replace hsz : bR + 3 ≤ ({ wr with tape := τ, drawn := d' } : World).heap.size := by rw [← s3]; exact hsz
      generalize ({ wr with tape := τ, drawn := d' } : World) = wr at hMat hpl4 y4 hdat hbw hsz ⊢
      have c5 := inverse_any t bR rb _ _ wr (by omega) hMat (mF_sq (by omega) hP (fun i hi => hx i hi))
      go_wp2_with (first | (go_at_call 76; (with_reducible refine c5.mono ?_); rintro e w5 ⟨h2, b2, A, B, rfl, hMB, hGj, hO5, hh2, hb2⟩))
      have hbw5 : Bel w.heap.size w w5 := ⟨hO5.os.trans hbw.os, rfl, hO5.output.trans hbw.output, by have := hbw.size'; have := hO5.size; show w.heap.size ≤ _; omega, fun b hb => by
        have hb' : b < w.heap.size := hb
        exact (hO5.block b (by have := hbw.size'; omega) (by rintro ⟨i, hi, e⟩; have := hrbl i hi; omega)).trans (hbw.block b hb)⟩
      have hpl5 := hO5.row hpl4.lt (by rintro ⟨i, hi, e⟩; have := hrbl i hi; omega) hpl4
      have y5 := hO5.row y4.lt (by rintro ⟨i, hi, e⟩; have := hrbl i hi; omega) y4
      have dat5 := hO5.row hdat.lt (by rintro ⟨i, hi, e⟩; have := hrbl i hi; omega) hdat
      have v1 := one w5 (.slice (some ⟨h2, 0, none⟩) t t)
      have hb6 : Below w5.heap.size w5 (w5.alloc (.cells #[.slice (some ⟨h2, 0, none⟩) t t] 23)) := (Below.refl _ _).alloc (Nat.le_refl _) _
      have s6 : (w5.alloc (.cells #[.slice (some ⟨h2, 0, none⟩) t t] 23)).heap.size = w5.heap.size + 1 := by simp
      have hs5 : bR + 3 ≤ w5.heap.size := Nat.le_trans hsz hO5.size
      have hw5 := hbw5.size'
      have hh2l := hMB.head.lt
      have hb2l := fun i hi => (hMB.rows i hi).lt
      have hpl6 := hpl5.of_block (hb6.block bp hpl5.lt)
      have y6 := y5.of_block (hb6.block _ y5.lt)
      have dat6 := dat5.of_block (hb6.block _ dat5.lt)
      have hMB6 : Mat (w5.alloc (.cells #[.slice (some ⟨h2, 0, none⟩) t t] 23)) h2 t b2 B := ⟨hMB.head.of_block (hb6.block _ hMB.head.lt), fun i hi => (hMB.rows i hi).of_block (hb6.block _ (hMB.rows i hi).lt), hMB.inj, hMB.sep⟩
      have bl6 := hbw5.trans (Bel.of hb6) hw5
      have hwr := hbw.size'
      generalize w5.alloc (.cells #[.slice (some ⟨h2, 0, none⟩) t t] 23) = w6 at v1 s6 hpl6 y6 dat6 hMB6 bl6 ⊢
      generalize hbv : w5.heap.size = bv at *
      clear hb6 hMB hpl5 y5 dat5 hbw5 hbw hO5 c5 hpl4 y4 hdat hMat hbv
      refine reachI_go goodF hD (by kernel_rfl) rfl sf31 fun R hR τ d' => ?_
      replace hMB6 : Mat ({ w6 with tape := τ, drawn := d' } : World) h2 t b2 B := hMB6.heap rfl
      replace hpl6 : ({ w6 with tape := τ, drawn := d' } : World).rowIs _ _ _ _ := hpl6
      replace y6 : ({ w6 with tape := τ, drawn := d' } : World).rowIs _ _ _ _ := y6
      replace dat6 : ({ w6 with tape := τ, drawn := d' } : World).rowIs _ _ _ _ := dat6
      replace v1 : ({ w6 with tape := τ, drawn := d' } : World).rowIs _ _ _ _ := v1
      replace s6 : ({ w6 with tape := τ, drawn := d' } : World).heap.size = bv + 1 := s6
      replace bl6 := bl6.tp τ d'
      generalize ({ w6 with tape := τ, drawn := d' } : World) = w6 at hMB6 hpl6 y6 dat6 v1 s6 bl6 ⊢
      have m5 := m1 w6
      rw [s6] at m5
      have z7 : (w6.alloc (.cells Z 24)).heap[bv + 1]? = some (.cells Z 24) := by
        have := heap_alloc_new w6 (.cells Z 24)
        rwa [s6] at this
      have s7 : (w6.alloc (.cells Z 24)).heap.size = bv + 2 := by simp [s6]
      have hb7 : Below (bv + 1) w6 (w6.alloc (.cells Z 24)) := (Below.refl _ _).alloc (by omega) _
      go_wp2
      have v3 := one (w6.alloc (.cells Z 24)) (.slice (some ⟨bv + 1, 0, none⟩) t t)
      rw [s7] at v3
      have hb8 := hb7.alloc (by omega) (.cells #[.slice (some ⟨bv + 1, 0, none⟩) t t] 23)
      have z8 : ((w6.alloc (.cells Z 24)).alloc (.cells #[.slice (some ⟨bv + 1, 0, none⟩) t t] 23)).heap[bv + 1]? = some (.cells Z 24) := (Below.heap_alloc _ _ _ (by omega)).trans z7
      have s8 : ((w6.alloc (.cells Z 24)).alloc (.cells #[.slice (some ⟨bv + 1, 0, none⟩) t t] 23)).heap.size = bv + 3 := by simp [s6]
      generalize (w6.alloc (.cells Z 24)).alloc (.cells #[.slice (some ⟨bv + 1, 0, none⟩) t t] 23) = w8 at v3 hb8 z8 s8 ⊢
      have st : ∀ {b o : Nat} {v : Value}, w6.cell? ⟨b, o, none⟩ = some v → w8.cell? ⟨b, o, none⟩ = some v := fun {b o v} hc => (hb8.cell (p := ⟨b, o, none⟩) (by have := cell_ltV hc; show b < _; omega)).trans hc
      have hpf : PF31 t q σ bp (bR + 2) (bR + 1) bv h2 (bv + 2) (bv + 1) b2 B w8 := by
        refine ⟨fun x hx => ?_, fun x hx => ?_, st (y6.cell (i := 0) (by omega)), fun x hx => ?_, st (v1.cell (i := 0) (by omega)), fun x hx => st (hMB6.head.cell hx), fun x j hx hj => st ((hMB6.rows x hx).cell hj), v3.cell (i := 0) (by omega), by rw [hZ]; exact z8, ⟨by omega, by omega, by omega, by omega, by omega, fun x hx => by have := hb2l x hx; omega, by omega, by omega⟩, ⟨A, hGj⟩, hP⟩
        · have := hpl6.cell (i := x * 2) (by omega)
          simp only [plF, show x * 2 / 2 = x by omega, show x * 2 % 2 = 0 by omega, cvv, if_true] at this
          exact st this
        · have := hpl6.cell (i := x * 2 + 1) (by omega)
          simp only [plF, show (x * 2 + 1) / 2 = x by omega, show (x * 2 + 1) % 2 = 1 by omega, cvv, Nat.one_ne_zero, if_false] at this
          exact st this
        · have := dat6.cell hx
          rw [if_pos hx] at this
          exact st this
      exact hnext σ bp (bR + 2) (bR + 1) bv h2 (bv + 2) (bv + 1) b2 B _ w8 (tpre_mk rfl) hpf (fun b hb => by omega) ⟨by omega, by omega, by omega, by omega, by omega, fun x hx => by have := hb2 x hx; omega⟩ (bl6.trans (Bel.of hb8) (by omega))
end
end Go.Proofs.YtlghjjennhpjeaaGreatDoor

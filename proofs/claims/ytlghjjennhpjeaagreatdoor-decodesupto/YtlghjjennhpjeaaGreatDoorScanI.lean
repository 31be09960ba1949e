/-
  How the document reads a shard: the names and sizes: the loop, where nothing was wrong before.
-/
import Derived.Test.YtlghjjennhpjeaaGreatDoorScanH
namespace Go.Proofs.YtlghjjennhpjeaaGreatDoor
open Go.RowKit Go.Deep

theorem one_str (x : ByteArray) : ∀ u ∈ [Value.string x], u.oneCell' = true := by intro u hu; simp at hu; subst hu; rfl
theorem one_i64 (x : Int) : ∀ u ∈ [Value.int .i64 x], u.oneCell' = true := by intro u hu; simp at hu; subst hu; rfl
theorem strV_snoc (l : List (List UInt8)) (s : List UInt8) : strsV l ++ [.string ⟨s.toArray⟩] = strsV (l ++ [s]) := by simp [strsV]
theorem natV_snoc (l : List Nat) (z : Nat) : natV l ++ [.int .i64 (z : Int)] = natV (l ++ [z]) := by simp [natV]

theorem NmInv.step {w : World} {sb xb bb bo cap : Nat} {l : List UInt8} {k n i ch : Nat} {vN vS : Value} {ns : List (List UInt8)} {zs : List Nat} {B : Nat} {wr w' : World} (I : NmInv w sb xb bb bo cap l k n i ch vN vS ns zs B wr)
    (hb : But wr.heap.size (· = sb) wr w') (hs : ScR w' sb (.slice (some ⟨bb, bo, none⟩) l.length cap) 32 none) (hsb : sb < B) (hxs : xb ≠ sb) (hBw : B ≤ wr.heap.size) : NmInv w sb xb bb bo cap l k n i ch vN vS ns zs B w' :=
  ⟨I.but.trans (hb.mono hBw (fun _ x => .inl x)), hs, I.sh.later hb I.sh.row.lt hxs,
   owns_later I.on (fun g hg => hb.block g ((I.on.lt g hg).2) (by have := (I.on.lt g hg).1; omega)),
   owns_later I.os (fun g hg => hb.block g ((I.os.lt g hg).2) (by have := (I.os.lt g hg).1; omega)), I.ap⟩
theorem NmInv.addN {w : World} {sb xb bb bo cap : Nat} {l : List UInt8} {k n i ch : Nat} {vN vS v1 : Value} {ns : List (List UInt8)} {zs : List Nat} {B : Nat} {wr w1 : World} {o : Obj} {nm : List UInt8} (I : NmInv w sb xb bb bo cap l k n i ch vN vS ns zs B wr)
    (hsb : sb < B) (hxb : xb < B) (hxs : xb ≠ sb) (hBw : B ≤ wr.heap.size) (h1 : w1.ownsRow B 9 1 v1 (ns.length + 1) (strsV ns ++ [.string ⟨nm.toArray⟩])) (hg : (wr.alloc o).grownBy w1 vN.ownBlock) (hk : v1.ownBlock = vN.ownBlock ∨ v1.ownBlock = some (wr.alloc o).heap.size) :
    NmInv w sb xb bb bo cap l k n i ch v1 vS (ns ++ [nm]) zs B (w1.setCell ⟨xb, 4, none⟩ v1) := by
  have hb1 : But B (fun _ => False) wr w1 := ((But.refl _ _ _).alloc hBw o).grown hg (by simp; omega) (fun g hg => (I.on.lt g hg).1)
  have hb2 : But B (· = xb) wr (w1.setCell ⟨xb, 4, none⟩ v1) := But.setCell (S := (· = xb)) (p := ⟨xb, 4, none⟩) (hb1.mono (Nat.le_refl _) (fun _ x => x.elim)) (.inr rfl) v1
  have hS : w1.ownsRow B 3 1 vS zs.length (natV zs) := owns_later I.os (fun g hg' => by
    have h2 := I.os.lt g hg'
    rw [hg.block g (by simp; omega) (fun e => I.ap g e.symm hg')]
    exact Below.heap_alloc _ _ _ h2.2)
  refine ⟨I.but.trans (hb2.mono (Nat.le_refl _) (fun _ x => .inr x)), I.sc.later hb2 hsb (fun e => hxs e.symm), (I.sh.later hb1 hxb id).setN v1, ?_, ownsRow_setCell_below hS hxb v1, ?_⟩
  · rw [strV_snoc] at h1
    rw [List.length_append]
    exact ownsRow_setCell_below h1 hxb v1
  · intro g hg1 hg2
    rcases hk with e | e
    · exact I.ap g (e ▸ hg1) hg2
    · have h2 := (I.os.lt g hg2).2
      rw [e] at hg1
      cases hg1
      simp at h2
      omega
theorem NmInv.addS {w : World} {sb xb bb bo cap : Nat} {l : List UInt8} {k n i ch : Nat} {vN vS v1 : Value} {ns : List (List UInt8)} {zs : List Nat} {B : Nat} {wr w1 : World} {o : Obj} {z : Nat} (I : NmInv w sb xb bb bo cap l k n i ch vN vS ns zs B wr)
    (hsb : sb < B) (hxb : xb < B) (hxs : xb ≠ sb) (hBw : B ≤ wr.heap.size) (h1 : w1.ownsRow B 3 1 v1 (zs.length + 1) (natV zs ++ [.int .i64 (z : Int)])) (hg : (wr.alloc o).grownBy w1 vS.ownBlock) (hk : v1.ownBlock = vS.ownBlock ∨ v1.ownBlock = some (wr.alloc o).heap.size) :
    NmInv w sb xb bb bo cap l k n i ch vN v1 ns (zs ++ [z]) B (w1.setCell ⟨xb, 5, none⟩ v1) := by
  have hb1 : But B (fun _ => False) wr w1 := ((But.refl _ _ _).alloc hBw o).grown hg (by simp; omega) (fun g hg => (I.os.lt g hg).1)
  have hb2 : But B (· = xb) wr (w1.setCell ⟨xb, 5, none⟩ v1) := But.setCell (S := (· = xb)) (p := ⟨xb, 5, none⟩) (hb1.mono (Nat.le_refl _) (fun _ x => x.elim)) (.inr rfl) v1
  have hS : w1.ownsRow B 9 1 vN ns.length (strsV ns) := owns_later I.on (fun g hg' => by
    have h2 := I.on.lt g hg'
    rw [hg.block g (by simp; omega) (fun e => I.ap g hg' e.symm)]
    exact Below.heap_alloc _ _ _ h2.2)
  refine ⟨I.but.trans (hb2.mono (Nat.le_refl _) (fun _ x => .inr x)), I.sc.later hb2 hsb (fun e => hxs e.symm), (I.sh.later hb1 hxb id).setS v1, ownsRow_setCell_below hS hxb v1, ?_, ?_⟩
  · rw [natV_snoc] at h1
    rw [List.length_append]
    exact ownsRow_setCell_below h1 hxb v1
  · intro g hg1 hg2
    rcases hk with e | e
    · exact I.ap g hg1 (e ▸ hg2)
    · have h2 := (I.on.lt g hg1).2
      rw [e] at hg2
      cases hg2
      simp at h2
      omega
theorem owns_some {w : World} {base e n : Nat} {v : Value} {xs : List Value} (h : w.ownsRow base e 1 v n xs) (hn : 0 < n) : ∃ g cap, v = .slice (some ⟨g, 0, none⟩) n cap := by
  rcases h.2 with ⟨_, h0⟩ | ⟨g, c, _, h1, _⟩
  · omega
  · exact ⟨g, c, h1⟩
theorem NmInv.x4 {w : World} {sb xb bb bo cap : Nat} {l : List UInt8} {k n i ch : Nat} {vN vS : Value} {ns : List (List UInt8)} {zs : List Nat} {B : Nat} {wr w1 : World} {o : Obj} (I : NmInv w sb xb bb bo cap l k n i ch vN vS ns zs B wr)
    (hxb : xb < B) (hBw : B ≤ wr.heap.size) (hg : (wr.alloc o).grownBy w1 vN.ownBlock) : w1.cell? ⟨xb, 4, none⟩ = some vN ∧ w1.frozen? ⟨xb, 4, none⟩ = false := by
  have hb1 : But B (fun _ => False) wr w1 := ((But.refl _ _ _).alloc hBw o).grown hg (by simp; omega) (fun g hg => (I.on.lt g hg).1)
  have h := I.sh.later hb1 hxb id
  exact ⟨h.row.cell rfl, h.row.frozen 4⟩
theorem NmInv.x5 {w : World} {sb xb bb bo cap : Nat} {l : List UInt8} {k n i ch : Nat} {vN vS : Value} {ns : List (List UInt8)} {zs : List Nat} {B : Nat} {wr w1 : World} {o : Obj} (I : NmInv w sb xb bb bo cap l k n i ch vN vS ns zs B wr)
    (hxb : xb < B) (hBw : B ≤ wr.heap.size) (hg : (wr.alloc o).grownBy w1 vS.ownBlock) : w1.cell? ⟨xb, 5, none⟩ = some vS ∧ w1.frozen? ⟨xb, 5, none⟩ = false := by
  have hb1 : But B (fun _ => False) wr w1 := ((But.refl _ _ _).alloc hBw o).grown hg (by simp; omega) (fun g hg => (I.os.lt g hg).1)
  have h := I.sh.later hb1 hxb id
  exact ⟨h.row.cell rfl, h.row.frozen 5⟩
theorem cell_one_at (w : World) (b : Nat) (x : Value) (t : TypeId) (hb : b = w.heap.size) : ∀ j u, [x][j]? = some u → (w.alloc (.cells #[x] t)).cell? ((⟨b, 0, none⟩ : Addr).add j) = some u := by
  subst hb
  exact cell_one_new w x t
theorem strL (a b : List UInt8) : (Op.bytesLess (⟨a.toArray⟩ : ByteArray).toList (⟨b.toArray⟩ : ByteArray).toList || (⟨a.toArray⟩ : ByteArray).toList == (⟨b.toArray⟩ : ByteArray).toList) = notBehind a b := by
  have e : ∀ x : List UInt8, (⟨x.toArray⟩ : ByteArray).toList = x := fun x => by simp
  rw [e, e]; rfl
section
variable (sb xb bb bo cap : Nat) (hbs : bb ≠ sb) (hbx : bb ≠ xb) (hxs : xb ≠ sb) (l : List UInt8) (hl : l.length < 2 ^ 60) (hcap : l.length ≤ cap) (m : Nat) (hm4 : 4 ≤ m) (hm : m ≤ 300000) (k n i ch at0 : Nat)
    (w : World) (h : ScR w sb (.slice (some ⟨bb, bo, none⟩) l.length cap) at0 none) (hx : ShX w xb k n i ch (.slice none 0 0) (.slice none 0 0) (.slice none 0 0)) (hb : Byt w bb bo l) (hbb : bb < w.heap.size)

set_option maxHeartbeats 8000000 in
set_option maxRecDepth 100000 in
include hbs hbx hxs hl hcap hm4 hm h hx hb hbb in
theorem names_good (hs : sealE l 32 m = none) (hN : ¬ 1000 < le l 32 4) :
    Calls Tryz.prog 30 #[.pointer (some ⟨sb, 0, none⟩), .pointer (some ⟨xb, 0, none⟩), .int .i64 (m : Int)] w fun q w' => q = .returned (.tuple #[]) ∧ NamesPost w sb xb bb bo cap l m k n i ch w' := by
  have hsb := h.lt
  have hxb : xb < w.heap.size := hx.row.lt
  have c1 := h.scn.c1
  have f1 := RowAt.frozen h.scn 1
  have h0 := h.setAt 32
  have hB0 := (But.refl w.heap.size (· = sb) w).setCell (p := ⟨sb, 1, none⟩) (.inr rfl) (.int .i64 32)
  have hb0 := hb.later hB0 hbb hbs
  have hlen := sealE_len hs
  obtain ⟨N, eN⟩ : ∃ N, le l 32 4 = N := ⟨_, rfl⟩
  obtain ⟨RES, eR⟩ : ∃ RES, blobsE l (32 + m) N 36 [] [] = RES := ⟨_, rfl⟩
  have HF : Hid (namesE l m = endE (32 + m) RES) := by
    show namesE l m = _
    unfold namesE
    rw [hs]
    simp only
    rw [if_neg hN, eN, eR]
  have EN : Hid (le l 32 4 = N) := eN
  rw [eN] at hN
  have HR : Hid (blobsE l (32 + m) N 36 [] [] = RES) := eR
  have HS : Hid (sealE l 32 m = none) := hs
  clear eN eR hs
  go_enter Tryz.func30, Tryz.ntmps30
  go_wp2_with (first | (go_at_call 60; refine (seal_r (sb := sb) (bb := bb) (bo := bo) (cap := cap) (l := l) (at_ := 32) (r := none) _ m (by rfl) (by omega) hbs hl hcap (by omega) (by exact h0) (by exact hb0) (by simp; omega)).mono ?_; rintro q w1 ⟨rfl, hS1, hB1⟩; rw [HS.out] at hS1; have hb1 := hb0.later hB1 (by simp; omega) hbs) | (go_at_call 29; refine (num_ok (sb := sb) (bb := bb) (bo := bo) (cap := cap) (l := l) (at_ := 32) _ _ 32 4 (by rfl) (by rfl) (by omega) hl (by exact hS1) (by exact hb1) (by omega)).mono ?_; rintro q w' ⟨rfl, hw'⟩; obtain rfl := hw'.symm; rw [EN.out]) | (go_at_call 31; refine (must_r (sb := sb) (at_ := 32) (r := none) (decide ((N : Int) ≤ 1000)) _ _ 7 32 (by rfl) (by rfl) (by decide) (by exact hS1)).mono ?_; rintro q w2 ⟨rfl, hS2, hB2⟩))
  have hS3 : ScR w2 sb (.slice (some ⟨bb, bo, none⟩) l.length cap) 32 none := hS2.ok (ok' := true) (by simp; omega)
  have e0 : (w.setCell ⟨sb, 1, none⟩ (.int .i64 32)).heap.size = w.heap.size := by simp
  have hB3 : But w.heap.size (· = sb) w w2 := hB0.trans ((hB1.mono (by omega) (fun _ x => x)).trans (hB2.mono (by have := hB1.size; omega) (fun _ x => x)))
  clear hS2 hS1 hB0 hB1 hB2 hb1 hb0 h0 e0
  have hI : NmInv w sb xb bb bo cap l k n i ch (.slice none 0 0) (.slice none 0 0) [] [] w.heap.size w2 :=
    ⟨hB3.mono (Nat.le_refl _) (fun _ x => .inl x), hS3, hx.later hB3 hxb hxs, World.ownsRow_nil _ _ _ _, World.ownsRow_nil _ _ _ _, fun g hg => by cases hg⟩
  clear hS3 hB3 h hx c1 f1
  go_loopw [8, 9, 10, 11, 12] (fun va vi _ _ _ wr => ∃ c a : Nat, c ≤ N ∧ a ≤ 32 + m ∧ va = .int .i64 (a : Int) ∧ vi = .int .i64 (c : Int) ∧
    ((∃ ns zs vN vS, ns.length = c ∧ zs.length = c ∧ (∀ j, zs.getD j 0 < 2 ^ 63) ∧ NmInv w sb xb bb bo cap l k n i ch vN vS ns zs w.heap.size wr ∧ Hid (blobsE l (32 + m) (N - c) a ns zs = RES)) ∨
     (∃ e, Hid (RES = .error e) ∧ But w.heap.size (fun k => k = sb ∨ k = xb) w wr ∧ ScR wr sb (.slice (some ⟨bb, bo, none⟩) l.length cap) 32 (some e)))) (fun _ i _ _ _ _ => N - (intOf i).toNat)
  case atStart => exact ⟨0, 36, by omega, by omega, rfl, rfl, .inl ⟨[], [], _, _, rfl, rfl, by simp, hI, HR⟩⟩
  case round =>
    obtain ⟨c, a, hc, ha, rfl, rfl, hst⟩ := hrel
    clear hI HR
    rcases hst with ⟨ns, zs, vN, vS, hns, hzs, hzb, I, H⟩ | ⟨e, HE, hB, hS⟩
    · have c0 := I.sc.scn.c0
      have c2 : wr.cell? ⟨sb, 2, none⟩ = some (.int .i64 0) := I.sc.scn.c2
      have hbw := hb.later I.but hbb (by omega)
      by_cases hlt : c < N
      · obtain ⟨c', hc'⟩ : ∃ c', N - c = c' + 1 := ⟨N - c - 1, by omega⟩
        have hcc : N - (c + 1) = c' := by omega
        have H0 := H.out
        rw [hc', blobsE] at H0
        have bad : ∀ x y w', x ≠ 0 → RES = .error (x, y) → ScR w' sb (.slice (some ⟨bb, bo, none⟩) l.length cap) 32 (orE none (some (x, y))) → But wr.heap.size (· = sb) wr w' → NamesPost w sb xb bb bo cap l m k n i ch w' := by
          intro x y w' _ hR h1 h2
          refine ⟨I.but.trans (h2.mono I.but.size (fun _ x => .inl x)), ?_⟩
          rw [HF.out, hR]
          exact h1
        by_cases q1 : 32 + m < a + 2
        · rw [if_pos q1] at H0
          have HX : Hid (RES = .error (7, a)) := H0.symm
          clear H0 H hc' hcc
          go_wp2_with (first | (go_at_call 61; refine (err_r (sb := sb) (at_ := 32) (r := none) _ _ 7 a (by rfl) (by rfl) (by decide) (by exact I.sc)).mono ?_; rintro q w4 ⟨rfl, hS4, hB4⟩))
          refine bodyPost_ret (results_none rfl _ _ _) rfl ?_
          exact ⟨rfl, bad 7 a _ (by decide) HX.out hS4 hB4⟩
        · rw [if_neg q1] at H0
          obtain ⟨kk, ek⟩ : ∃ kk, le l a 2 = kk := ⟨_, rfl⟩
          have hkk : kk < 65536 := by have := le_lt l 2 a; rw [ek] at this; exact this
          rw [ek] at H0
          have EK : Hid (le l a 2 = kk) := ek
          clear ek
          by_cases q2 : kk < 1 ∨ 255 < kk ∨ 32 + m < a + 6 + kk
          · rw [if_pos q2] at H0
            have HX : Hid (RES = .error (7, a)) := H0.symm
            clear H0 H hc' hcc
            by_cases p1 : kk < 1
            · go_wp2_with (first | (go_at_call 29; refine (num_ok (sb := sb) (bb := bb) (bo := bo) (cap := cap) (l := l) (at_ := 32) _ _ a 2 (by rfl) (by rfl) (by omega) hl (by exact I.sc) (by exact hbw) (by omega)).mono ?_; rintro q w' ⟨rfl, hw'⟩; obtain rfl := hw'.symm; rw [EK.out]) | (go_at_call 61; refine (err_r (sb := sb) (at_ := 32) (r := none) _ _ 7 (a) (by rfl) (by first | rfl | simp) (by decide) (by exact I.sc)).mono ?_; rintro q w4 ⟨rfl, hS4, hB4⟩))
              refine bodyPost_ret (results_none rfl _ _ _) rfl ?_
              exact ⟨rfl, bad 7 a _ (by decide) HX.out hS4 hB4⟩
            · by_cases p2 : 255 < kk
              · go_wp2_with (first | (go_at_call 29; refine (num_ok (sb := sb) (bb := bb) (bo := bo) (cap := cap) (l := l) (at_ := 32) _ _ a 2 (by rfl) (by rfl) (by omega) hl (by exact I.sc) (by exact hbw) (by omega)).mono ?_; rintro q w' ⟨rfl, hw'⟩; obtain rfl := hw'.symm; rw [EK.out]) | (go_at_call 61; refine (err_r (sb := sb) (at_ := 32) (r := none) _ _ 7 (a) (by rfl) (by first | rfl | simp) (by decide) (by exact I.sc)).mono ?_; rintro q w4 ⟨rfl, hS4, hB4⟩))
                refine bodyPost_ret (results_none rfl _ _ _) rfl ?_
                exact ⟨rfl, bad 7 a _ (by decide) HX.out hS4 hB4⟩
              · have p3 : 32 + m < a + 6 + kk := by omega
                go_wp2_with (first | (go_at_call 29; refine (num_ok (sb := sb) (bb := bb) (bo := bo) (cap := cap) (l := l) (at_ := 32) _ _ a 2 (by rfl) (by rfl) (by omega) hl (by exact I.sc) (by exact hbw) (by omega)).mono ?_; rintro q w' ⟨rfl, hw'⟩; obtain rfl := hw'.symm; rw [EK.out]) | (go_at_call 61; refine (err_r (sb := sb) (at_ := 32) (r := none) _ _ 7 (a) (by rfl) (by first | rfl | simp) (by decide) (by exact I.sc)).mono ?_; rintro q w4 ⟨rfl, hS4, hB4⟩))
                refine bodyPost_ret (results_none rfl _ _ _) rfl ?_
                exact ⟨rfl, bad 7 a _ (by decide) HX.out hS4 hB4⟩
          · rw [if_neg q2] at H0
            have hpl : (part l (a + 2) kk).length = kk := part_length (by omega)
            have hsl := slice_part bb bo l.length cap ((a : Int) + 2) ((a : Int) + 2 + (kk : Int)) (a + 2) (a + 2 + kk) (by simp) (by simp) (by omega) (by omega) (by omega)
            have e1 : a + 2 + kk - (a + 2) = kk := by omega
            rw [e1] at hsl
            have hcv := conv_part (hbw.part (a := a + 2) (n := kk) (by omega)) kk hpl (cap - (a + 2))
            clear e1
            obtain ⟨nm, en⟩ : ∃ nm, part l (a + 2) kk = nm := ⟨_, rfl⟩
            rw [en] at hcv H0
            have ENM : Hid (part l (a + 2) kk = nm) := en
            clear en hpl
            by_cases q3 : 0 < ns.length ∧ notBehind nm (ns.getD (ns.length - 1) []) = true
            · rw [if_pos q3] at H0
              have HX : Hid (RES = .error (7, a + 2)) := H0.symm
              clear H0 H hc' hcc
              obtain ⟨c0, rfl⟩ : ∃ c0, c = c0 + 1 := ⟨c - 1, by omega⟩
              have c4 := I.sh.row.cell (i := 4) rfl
              have hon := I.on
              obtain ⟨g, cn, ev⟩ : ∃ g cn, vN = .slice (some ⟨g, 0, none⟩) ns.length cn := by
                rcases hon.2 with ⟨_, h0⟩ | ⟨g, cn, _, h1, _⟩
                · omega
                · exact ⟨g, cn, h1⟩
              rw [ev] at c4 hon
              have hla := hon.cellAt c0 (by omega)
              rw [strV_at (by omega)] at hla
              rw [hns] at c4
              clear hon
              have e2 : ns.length - 1 = c0 := by omega
              rw [e2] at q3
              obtain ⟨la, el⟩ : ∃ la, ns.getD c0 [] = la := ⟨_, rfl⟩
              rw [el] at hla q3
              have hq := q3.2
              unfold notBehind at hq
              clear q3 e2 el ev
              rcases hq1 : Op.bytesLess nm la with _ | _
              · rw [hq1, Bool.false_or] at hq
                go_wp2_with (first | (go_at_call 29; refine (num_ok (sb := sb) (bb := bb) (bo := bo) (cap := cap) (l := l) (at_ := 32) _ _ a 2 (by rfl) (by rfl) (by omega) hl (by exact I.sc) (by exact hbw) (by omega)).mono ?_; rintro q w' ⟨rfl, hw'⟩; obtain rfl := hw'.symm; rw [EK.out]) | (go_at_call 61; refine (err_r (sb := sb) (at_ := 32) (r := none) _ _ 7 (a + 2) (by rfl) (by first | rfl | simp) (by decide) (by exact I.sc)).mono ?_; rintro q w4 ⟨rfl, hS4, hB4⟩))
                refine bodyPost_ret (results_none rfl _ _ _) rfl ?_
                exact ⟨rfl, bad 7 (a + 2) _ (by decide) HX.out hS4 hB4⟩
              · clear hq
                go_wp2_with (first | (go_at_call 29; refine (num_ok (sb := sb) (bb := bb) (bo := bo) (cap := cap) (l := l) (at_ := 32) _ _ a 2 (by rfl) (by rfl) (by omega) hl (by exact I.sc) (by exact hbw) (by omega)).mono ?_; rintro q w' ⟨rfl, hw'⟩; obtain rfl := hw'.symm; rw [EK.out]) | (go_at_call 61; refine (err_r (sb := sb) (at_ := 32) (r := none) _ _ 7 (a + 2) (by rfl) (by first | rfl | simp) (by decide) (by exact I.sc)).mono ?_; rintro q w4 ⟨rfl, hS4, hB4⟩))
                refine bodyPost_ret (results_none rfl _ _ _) rfl ?_
                exact ⟨rfl, bad 7 (a + 2) _ (by decide) HX.out hS4 hB4⟩
            · rw [if_neg q3] at H0
              obtain ⟨z, ez⟩ : ∃ z, le l (a + 2 + kk) 4 = z := ⟨_, rfl⟩
              have hzl : z < 2 ^ 32 := by have := le_lt l 4 (a + 2 + kk); rw [ez] at this; exact this
              rw [ez, hcc.symm] at H0
              have EZ : Hid (le l (a + 2 + kk) 4 = z) := ez
              have HG : Hid _ := H0
              have c4 := I.sh.row.cell (i := 4) rfl
              have hBw := I.but.size
              clear ez H0 H hc' hcc bad
              obtain ⟨t, et⟩ : ∃ t, totalS (zs ++ [z]) = t := ⟨_, rfl⟩
              have ET : Hid (totalS (zs ++ [z]) = t) := et
              have htl : t ≤ 65537 := et ▸ totalS_le _
              rw [et] at HG
              clear et
              have hzb2 : ∀ j, (zs ++ [z]).getD j 0 < 2 ^ 63 := by
                intro j
                rw [List.getD_eq_getElem?_getD, List.getElem?_append]
                split
                · have := hzb j
                  rw [List.getD_eq_getElem?_getD] at this
                  exact this
                · rcases j - zs.length with _ | _
                  · simp; omega
                  · simp
              obtain ⟨is, his, hzs0, hzs1, hzs2⟩ := info_parts infoS
              obtain ⟨ii, hii, hzi0, hzi1, hzi2⟩ := info_parts infoI
              have HNS : Hid (ns.length = c) := hns
              have HZS : Hid (zs.length = c) := hzs
              have hnl : ns.length < 1000 := by omega
              have hzl2 : zs.length < 1000 := by omega
              by_cases hc0 : c = 0
              · clear q3 hns hzs
                subst hc0
                go_wp2_with (first | (go_at_call 29; refine (num_ok (sb := sb) (bb := bb) (bo := bo) (cap := cap) (l := l) (at_ := 32) _ _ a 2 (by rfl) (by rfl) (by omega) hl (by exact I.sc) (by exact hbw) (by omega)).mono ?_; rintro q w' ⟨rfl, hw'⟩; obtain rfl := hw'.symm; rw [EK.out]) | (go_at_call 29; refine (num_ok (sb := sb) (bb := bb) (bo := bo) (cap := cap) (l := l) (at_ := 32) _ _ (a + 2 + kk) 4 (by simp) (by rfl) (by omega) hl (by exact I.sc) (by exact hbw) (by omega)).mono ?_; rintro q w' ⟨rfl, hw'⟩; obtain rfl := hw'.symm; rw [EZ.out]) | (at_builtin; refine wpList_append_own_at _ rfl _ _ 22 rfl w.heap.size 9 is (.string ⟨#[]⟩) 1 16 Tryz.underlying22 his hzs0 hzs1 hzs2 rfl (by decide) _ _ _ rfl (I.on.alloc _) ⟨wr.heap.size, 0, none⟩ 1 1 [.string ⟨nm.toArray⟩] rfl rfl (cell_one_new _ _ _) (one_str _) (by unfold maxLen; omega) (by omega) (by simp; omega) ?_; intro v1 w1 hown1 hgrow1 _ hblk1; obtain ⟨g1, p1, rfl⟩ := owns_some hown1 (by omega); have I1 := I.addN hsb hxb hxs hBw hown1 hgrow1 hblk1; have hBw1 := I1.but.size; obtain ⟨d4, f4⟩ := I.x4 hxb hBw hgrow1; have d5 := I1.sh.row.cell (i := 5) rfl; clear hgrow1 hown1 hblk1) | (at_builtin; refine wpList_append_own_at _ rfl _ _ 34 rfl w.heap.size 3 ii (.int .i64 0) 1 8 Tryz.underlying34 hii hzi0 hzi1 hzi2 rfl (by decide) _ _ _ rfl (I1.os.alloc _) ⟨_, 0, none⟩ 1 1 [.int .i64 (z : Int)] rfl rfl (cell_one_at _ _ _ _ (by simp)) (one_i64 _) (by unfold maxLen; omega) (by omega) (by simp at hBw1 ⊢; omega) ?_; intro v2 w2 hown2 hgrow2 _ hblk2; obtain ⟨g2, p2, rfl⟩ := owns_some hown2 (by omega); have I2 := I1.addS hsb hxb hxs hBw1 hown2 hgrow2 hblk2; have hBw2 := I2.but.size; obtain ⟨x5, f5⟩ := I1.x5 hxb hBw1 hgrow2; have x55 := I2.sh.row.cell (i := 5) rfl; clear hgrow2 hown2 hblk2) | (go_at_call 62; refine (total_any _ (zs ++ [z]) hzb2 (by simp; omega) _ (by exact hold_owns I2.os)).mono ?_; rintro q w' ⟨rfl, hw'⟩; obtain rfl := hw'.symm; rw [ET.out]) | (go_at_call 31; refine (must_r (sb := sb) (at_ := 32) (r := none) (decide ((t : Int) ≤ 65536)) _ _ 7 (a + 2 + kk) (by rfl) (by simp) (by decide) (by exact I2.sc)).mono ?_; rintro q w4 ⟨rfl, hS4, hB4⟩))
                go_roundw
                case rel =>
                  by_cases ht : 65536 < t
                  · have h5 := hS4.ok (ok' := false) (by simp; omega)
                    have h6 := HG.out
                    rw [if_pos ht] at h6
                    exact ⟨0 + 1, a + 6 + kk, by omega, by omega, by go_num, by go_num, .inr ⟨(7, a + 2 + kk), h6.symm, I2.but.trans (hB4.mono hBw2 (fun _ x => .inl x)), h5⟩⟩
                  · have h5 := hS4.ok (ok' := true) (by simp; omega)
                    have h6 := HG.out
                    rw [if_neg ht] at h6
                    exact ⟨0 + 1, a + 6 + kk, by omega, by omega, by go_num, by go_num, .inl ⟨ns ++ [nm], zs ++ [z], _, _, by rw [List.length_append, HNS.out]; rfl, by rw [List.length_append, HZS.out]; rfl, hzb2, I2.step hB4 h5 hsb hxs hBw2, h6⟩⟩
                case measure => simp [intOf]; omega
              · obtain ⟨c0, rfl⟩ : ∃ c0, c = c0 + 1 := ⟨c - 1, by omega⟩
                have hon := I.on
                obtain ⟨g, cn, ev⟩ := owns_some hon (by omega)
                rw [ev] at hon
                have hla := hon.cellAt c0 (by omega)
                rw [strV_at (by omega)] at hla
                obtain ⟨la, el⟩ : ∃ la, ns.getD c0 [] = la := ⟨_, rfl⟩
                have e2 : ns.length - 1 = c0 := by omega
                rw [e2, el] at q3
                rw [el] at hla
                have hq : Op.bytesLess nm la = false ∧ (nm == la) = false := by
                  have : notBehind nm la = false := by
                    cases hh : notBehind nm la with
                    | false => rfl
                    | true => exact absurd ⟨by omega, hh⟩ q3
                  unfold notBehind at this
                  exact Bool.or_eq_false_iff.1 this
                obtain ⟨hq1, hq2⟩ := hq
                subst ev
                have hlb : (c0 : Int) < (ns.length : Int) := by omega
                clear q3 e2 el hns hzs hon
                go_wp2_with (first | (go_at_call 29; refine (num_ok (sb := sb) (bb := bb) (bo := bo) (cap := cap) (l := l) (at_ := 32) _ _ a 2 (by rfl) (by rfl) (by omega) hl (by exact I.sc) (by exact hbw) (by omega)).mono ?_; rintro q w' ⟨rfl, hw'⟩; obtain rfl := hw'.symm; rw [EK.out]) | (go_at_call 29; refine (num_ok (sb := sb) (bb := bb) (bo := bo) (cap := cap) (l := l) (at_ := 32) _ _ (a + 2 + kk) 4 (by simp) (by rfl) (by omega) hl (by exact I.sc) (by exact hbw) (by omega)).mono ?_; rintro q w' ⟨rfl, hw'⟩; obtain rfl := hw'.symm; rw [EZ.out]) | (at_builtin; refine wpList_append_own_at _ rfl _ _ 22 rfl w.heap.size 9 is (.string ⟨#[]⟩) 1 16 Tryz.underlying22 his hzs0 hzs1 hzs2 rfl (by decide) _ _ _ rfl (I.on.alloc _) ⟨wr.heap.size, 0, none⟩ 1 1 [.string ⟨nm.toArray⟩] rfl rfl (cell_one_new _ _ _) (one_str _) (by unfold maxLen; omega) (by omega) (by simp; omega) ?_; intro v1 w1 hown1 hgrow1 _ hblk1; obtain ⟨g1, p1, rfl⟩ := owns_some hown1 (by omega); have I1 := I.addN hsb hxb hxs hBw hown1 hgrow1 hblk1; have hBw1 := I1.but.size; obtain ⟨d4, f4⟩ := I.x4 hxb hBw hgrow1; have d5 := I1.sh.row.cell (i := 5) rfl; clear hgrow1 hown1 hblk1) | (at_builtin; refine wpList_append_own_at _ rfl _ _ 34 rfl w.heap.size 3 ii (.int .i64 0) 1 8 Tryz.underlying34 hii hzi0 hzi1 hzi2 rfl (by decide) _ _ _ rfl (I1.os.alloc _) ⟨_, 0, none⟩ 1 1 [.int .i64 (z : Int)] rfl rfl (cell_one_at _ _ _ _ (by simp)) (one_i64 _) (by unfold maxLen; omega) (by omega) (by simp at hBw1 ⊢; omega) ?_; intro v2 w2 hown2 hgrow2 _ hblk2; obtain ⟨g2, p2, rfl⟩ := owns_some hown2 (by omega); have I2 := I1.addS hsb hxb hxs hBw1 hown2 hgrow2 hblk2; have hBw2 := I2.but.size; obtain ⟨x5, f5⟩ := I1.x5 hxb hBw1 hgrow2; have x55 := I2.sh.row.cell (i := 5) rfl; clear hgrow2 hown2 hblk2) | (go_at_call 62; refine (total_any _ (zs ++ [z]) hzb2 (by simp; omega) _ (by exact hold_owns I2.os)).mono ?_; rintro q w' ⟨rfl, hw'⟩; obtain rfl := hw'.symm; rw [ET.out]) | (go_at_call 31; refine (must_r (sb := sb) (at_ := 32) (r := none) (decide ((t : Int) ≤ 65536)) _ _ 7 (a + 2 + kk) (by rfl) (by simp) (by decide) (by exact I2.sc)).mono ?_; rintro q w4 ⟨rfl, hS4, hB4⟩))
                go_roundw
                case rel =>
                  by_cases ht : 65536 < t
                  · have h5 := hS4.ok (ok' := false) (by simp; omega)
                    have h6 := HG.out
                    rw [if_pos ht] at h6
                    exact ⟨c0 + 1 + 1, a + 6 + kk, by omega, by omega, by go_num, by go_num, .inr ⟨(7, a + 2 + kk), h6.symm, I2.but.trans (hB4.mono hBw2 (fun _ x => .inl x)), h5⟩⟩
                  · have h5 := hS4.ok (ok' := true) (by simp; omega)
                    have h6 := HG.out
                    rw [if_neg ht] at h6
                    exact ⟨c0 + 1 + 1, a + 6 + kk, by omega, by omega, by go_num, by go_num, .inl ⟨ns ++ [nm], zs ++ [z], _, _, by rw [List.length_append, HNS.out]; rfl, by rw [List.length_append, HZS.out]; rfl, hzb2, I2.step hB4 h5 hsb hxs hBw2, h6⟩⟩
                case measure => simp [intOf]; omega
      · have e : c = N := by omega
        have HX : Hid (RES = .ok (ns, zs, a)) := by
          have := H.out
          rw [show N - c = 0 by omega, blobsE] at this
          exact this.symm
        subst e
        clear H
        go_wp2_with (first | (go_at_call 31; refine (must_r (sb := sb) (at_ := 32) (r := none) _ _ _ 7 a (by rfl) (by rfl) (by decide) (by exact I.sc)).mono ?_; rintro q w4 ⟨rfl, hS4, hB4⟩))
        go_end0
        refine ⟨rfl, I.but.trans (hB4.mono I.but.size (fun _ x => .inl x)), ?_⟩
        rw [HF.out, HX.out]
        by_cases hae : a = 32 + m
        · have h5 := hS4.ok (ok' := true) (by simp <;> omega)
          rw [show endE (32 + m) (.ok (ns, zs, a)) = .ok (ns, zs) from if_pos hae]
          exact ⟨vN, vS, I.step hB4 h5 hsb hxs I.but.size⟩
        · have h5 := hS4.ok (ok' := false) (by simp <;> omega)
          rw [show endE (32 + m) (.ok (ns, zs, a)) = .error (7, a) from if_neg hae]
          exact h5
    · have E0 : Hid (e.1 ≠ 0) := hS.errs e rfl
      have c2 : wr.cell? ⟨sb, 2, none⟩ = some (.int .i64 (e.1 : Int)) := hS.scn.c2
      have hE : ((e.1 : Int) == 0) = false := by have := E0.out; simp; omega
      have fin : ∀ w', ScR w' sb (.slice (some ⟨bb, bo, none⟩) l.length cap) 32 (some e) → But wr.heap.size (· = sb) wr w' → NamesPost w sb xb bb bo cap l m k n i ch w' := by
        intro w' h1 h2
        refine ⟨hB.trans (h2.mono hB.size (fun _ x => .inl x)), ?_⟩
        rw [HF.out, HE.out]
        exact h1
      by_cases hlt : c < N
      · go_wp2_with (first | (go_at_call 31; refine (must_r (sb := sb) (at_ := 32) (r := some e) _ _ _ 7 a (by rfl) (by rfl) (by decide) (by exact hS)).mono ?_; rintro q w4 ⟨rfl, hS4, hB4⟩))
        go_end0
        exact ⟨rfl, fin _ hS4 hB4⟩
      · go_wp2_with (first | (go_at_call 31; refine (must_r (sb := sb) (at_ := 32) (r := some e) _ _ _ 7 a (by rfl) (by rfl) (by decide) (by exact hS)).mono ?_; rintro q w4 ⟨rfl, hS4, hB4⟩))
        go_end0
        exact ⟨rfl, fin _ hS4 hB4⟩
end
end Go.Proofs.YtlghjjennhpjeaaGreatDoor

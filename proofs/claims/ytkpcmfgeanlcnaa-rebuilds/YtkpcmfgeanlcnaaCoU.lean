/-
  In company: the starter from the fork's beginning.
-/
import Derived.Test.YtkpcmfgeanlcnaaCoT
namespace Go.Proofs.Ytkpcmfgeanlcnaa
open Go.Conc Go.ConcN Go.RowKit Go.Gh Go.Conc.Lib Go.ConcR.Gen Go.ConcN.Gen
open Go.ConcR (Payload)

theorem n13 : o13.size = 3 := by kernel_rfl
section
variable [Payload] {Wg C k B L : Nat} {E : Env}

def TW (E : Env) (Wg k : Nat) (T : Array Value) : Prop := ∃ f : Nat → Value, T = #[f 0, f 1, f 2, f 3, f 4, .slice (some ⟨E.bp, E.op, none⟩) k E.cp, f 6, .pointer (some ⟨E.bd, 0, none⟩), f 8, f 9, .pointer (some ⟨E.bv, 0, none⟩), .pointer (some ⟨E.ba, 0, none⟩), .pointer (some ⟨Wg, 0, none⟩), f 13, f 14, f 15, f 16, f 17, f 18, f 19, f 20, f 21, f 22, f 23, f 24, f 25, f 26, f 27, f 28, f 29, f 30, f 31, f 32, f 33, f 34, f 35, f 36, f 37, f 38, f 39, f 40, f 41, f 42, f 43, f 44, f 45, f 46, f 47, f 48, f 49, f 50, f 51, f 52, f 53, f 54, f 55, f 56, f 57, f 58, f 59, f 60, f 61, f 62, f 63, f 64, f 65, f 66, f 67, f 68]

set_option maxRecDepth 100000 in
set_option maxHeartbeats 4000000 in
theorem sp_start (hE : EnvOk E k L) {cs : List Frame} {T : Array Value} {w : World} {s0 : Nat} (hT : TW E Wg k T) (hF : SF Wg C k B L E s0 0 w) :
    Sp Try.prog link.tWg Wg C k B (E.mis k) (WPr C L (E.res L)) (KR Wg C k B L E cs) (misN E 0 k) [] (G ((base 31).at ⟨T, []⟩ [.code rTail]) cs) w := by
  obtain ⟨m, hm⟩ := spj (Wg := Wg) (C := C) (k := k) (B := B) (L := L) (E := E) hE (cs := cs) k 0 (by omega)
  rw [sp_iff]
  co_apply Exists.intro
  obtain ⟨f, rfl⟩ := hT
  rw [rTail_eq]
  (co_apply Goes.step rfl; intro _ hRq; replace hF := SF.rely hF hRq; clear hRq; rw [stepG_seq]; simp only [goes_go]; refine ⟨Terms.idle termsG _, ?_⟩)
  (co_apply Goes.step rfl; intro _ hRq; replace hF := SF.rely hF hRq; clear hRq; rw [stepG_seq]; simp only [goes_go]; refine ⟨Terms.idle termsG _, ?_⟩)
  (co_apply Goes.step rfl; intro _ hRq; replace hF := SF.rely hF hRq; clear hRq; rw [stepG_region, n13]; simp only [goes_go, List.range, List.range.loop]; refine ⟨Terms.idle termsG _, ?_⟩; simp only [o13, q13])
  (co_apply Goes.step rfl; intro _ hRq; replace hF := SF.rely hF hRq; clear hRq
   refine goes_oper_k rfl rfl (by decide) (fun Kq hKq => ?_)
   (skip)
   go_simp
   try (unfold stored; go_simp)
   refine hKq _ _ ⟨?_, ?_⟩
   · (co_quiet termsG)
   clear hKq Kq
   try walk_nrm)
  (co_apply Goes.step rfl; intro _ hRq; replace hF := SF.rely hF hRq; clear hRq
   refine goes_oper_k rfl rfl (by decide) (fun Kq hKq => ?_)
   (skip)
   go_simp
   try (unfold stored; go_simp)
   refine hKq _ _ ⟨?_, ?_⟩
   · (co_quiet termsG)
   clear hKq Kq
   try walk_nrm)
  (co_apply Goes.step rfl; intro _ hRq; replace hF := SF.rely hF hRq; clear hRq
   refine goes_oper_k rfl rfl (by decide) (fun Kq hKq => ?_)
   (skip)
   go_simp
   try (unfold stored; go_simp)
   refine hKq _ _ ⟨?_, ?_⟩
   · (co_quiet termsG)
   clear hKq Kq
   try walk_nrm)
  (co_apply Goes.step rfl; intro _ hRq; replace hF := SF.rely hF hRq; clear hRq; rw [stepG_region_end]; simp only [goes_go]; refine ⟨Terms.idle termsG _, ?_⟩)
  (co_apply Goes.step rfl; intro _ hRq; replace hF := SF.rely hF hRq; clear hRq; rw [stepG_block]; simp only [goes_go]; refine ⟨Terms.idle termsG _, ?_⟩)
  (co_apply Goes.step rfl; intro _ hRq; replace hF := SF.rely hF hRq; clear hRq; rw [stepG_loop]; simp only [goes_go]; refine ⟨Terms.idle termsG _, ?_⟩)
  exact hm _ _ [] s0 ⟨_, _, _, _, _, _, _, _, _, _, _, _, _, _, _, _, _, _, _, _, _, _, _, _, _, _, _, _, _, _, _, _, _, _, _, _, _, _, _, _, _, _, _, _, _, _, _, _, _, _, _, _, _, _, _, _, _, _, _, _, _, _, rfl⟩ hF (fun x => ⟨fun h => by simp at h, fun h => absurd h.2 (by omega)⟩)
end
end Go.Proofs.Ytkpcmfgeanlcnaa

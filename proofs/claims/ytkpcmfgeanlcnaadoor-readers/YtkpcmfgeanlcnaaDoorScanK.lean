/-
  How the document reads a shard: the whole.
-/
import Derived.Test.YtkpcmfgeanlcnaaDoorScanJ
namespace Go.Proofs.YtkpcmfgeanlcnaaDoor
open Go.RowKit Go.Deep

def magic2 : List UInt8 := [68, 79, 78, 69]
/-- What a shard tells. -/
structure Shd where
  k : Nat
  n : Nat
  i : Nat
  c : Nat
  names : List (List UInt8)
  sizes : List Nat
  col : List UInt8

/-- The head: what is wrong with it. -/
def headE (l : List UInt8) : Option (Nat × Nat) :=
  match orE (fixE l 0 magic1) (sealE l 0 24) with
  | some x => some x
  | none => headR none (le l 6 1) (le l 7 1) (le l 8 1) (le l 9 1) (le l 10 4) (le l 14 4) (le l 18 4) (le l 22 2)

/-- What is wrong with the bytes, and where; or the shard. -/
def parseE (l : List UInt8) : Except (Nat × Nat) Shd :=
  match headE l with
  | some e => .error e
  | none =>
    match namesE l (le l 14 4) with
    | .error e => .error e
    | .ok (ns, zs) =>
      if le l 18 4 = lengthS (le l 6 1) zs then
        match framesE l (decide (le l 8 1 < le l 6 1)) (le l 10 4) (le l 18 4) ((totalS zs : Int) - ((le l 8 1 * lengthS (le l 6 1) zs : Nat) : Int)) (le l 18 4) (32 + le l 14 4 + 8) [] with
        | .error e => .error e
        | .ok (col, a) =>
          match orE (fixE l a magic2) (mustE (decide (l.length ≤ a + 4)) 9 (a + 4)) with
          | some e => .error e
          | none => .ok ⟨le l 6 1, le l 7 1, le l 8 1, le l 10 4, ns, zs, col⟩
      else .error (7, 18)

theorem headR_none {k n i z c m ln zz : Nat} (h : headR none k n i z c m ln zz = none) : 1 ≤ k ∧ k ≤ 128 ∧ k ≤ n ∧ n ≤ 128 ∧ i < n ∧ z = 0 ∧ 1 ≤ c ∧ c ≤ 65536 ∧ 4 ≤ m ∧ m ≤ 300000 ∧ ln ≤ 65536 ∧ zz = 0 := by
  have key : ∀ {r : Option (Nat × Nat)} {ok : Bool} {x y : Nat}, orE r (mustE ok x y) = none → r = none ∧ ok = true := by
    intro r ok x y h
    cases r with
    | some _ => cases h
    | none => cases ok with
      | true => exact ⟨rfl, rfl⟩
      | false => cases h
  unfold headR at h
  obtain ⟨h, h8⟩ := key h
  obtain ⟨h, h7⟩ := key h
  obtain ⟨h, h6⟩ := key h
  obtain ⟨h, h5⟩ := key h
  obtain ⟨h, h4⟩ := key h
  obtain ⟨h, h3⟩ := key h
  obtain ⟨h, h2⟩ := key h
  obtain ⟨_, h1⟩ := key h
  simp only [decide_eq_true_eq] at *
  omega

theorem names_any (sb xb bb bo cap : Nat) (hbs : bb ≠ sb) (hbx : bb ≠ xb) (hxs : xb ≠ sb) (l : List UInt8) (hl : l.length < 2 ^ 60) (hcap : l.length ≤ cap) (m : Nat) (hm4 : 4 ≤ m) (hm : m ≤ 300000) (k n i ch at0 : Nat)
    (w : World) (h : ScR w sb (.slice (some ⟨bb, bo, none⟩) l.length cap) at0 none) (hx : ShX w xb k n i ch (.slice none 0 0) (.slice none 0 0) (.slice none 0 0)) (hb : Byt w bb bo l) (hbb : bb < w.heap.size) :
    Calls Tryd.prog 41 #[.pointer (some ⟨sb, 0, none⟩), .pointer (some ⟨xb, 0, none⟩), .int .i64 (m : Int)] w fun q w' => q = .returned (.tuple #[]) ∧ NamesPost w sb xb bb bo cap l m k n i ch w' := by
  cases hs : sealE l 32 m with
  | some e =>
    refine (names_bad sb xb bb bo cap hbs l hl hcap m hm4 hm at0 w h hb hbb e (by rw [hs]; rfl)).mono ?_
    rintro q w' ⟨h1, h2, h3⟩
    refine ⟨h1, h2, ?_⟩
    have : namesE l m = .error e := by unfold namesE; rw [hs]
    rw [this]
    exact h3
  | none =>
    by_cases hN : 1000 < le l 32 4
    · refine (names_bad sb xb bb bo cap hbs l hl hcap m hm4 hm at0 w h hb hbb (7, 32) (by rw [hs, if_pos rfl, show decide (le l 32 4 ≤ 1000) = false from by simp; omega]; rfl)).mono ?_
      rintro q w' ⟨h1, h2, h3⟩
      refine ⟨h1, h2, ?_⟩
      have : namesE l m = .error (7, 32) := by unfold namesE; rw [hs]; simp only; rw [if_pos hN]
      rw [this]
      exact h3
    · exact names_good sb xb bb bo cap hbs hbx hxs l hl hcap m hm4 hm k n i ch at0 w h hx hb hbb hs hN

def zeroShard : Value := .agg (shardL 0 0 0 0 (.slice none 0 0) (.slice none 0 0) (.slice none 0 0)).toArray
/-- What the call that reads a shard tells. -/
def ParsePost (l : List UInt8) (w : World) (q : Ending) (w' : World) : Prop :=
  Below w.heap.size w w' ∧
  match parseE l with
  | .error e => q = .returned (.tuple #[zeroShard, .int .i64 (e.1 : Int), .int .i64 (e.2 : Int)])
  | .ok s => ∃ vN vS vC, q = .returned (.tuple #[.agg (shardL s.k s.n s.i s.c vN vS vC).toArray, .int .i64 0, .int .i64 0]) ∧
      w'.ownsRow w.heap.size 9 1 vN s.names.length (strV s.names) ∧ w'.ownsRow w.heap.size 3 1 vS s.sizes.length (natV s.sizes) ∧ w'.ownsRow w.heap.size 5 1 vC s.col.length (u8V s.col)

theorem results_cell_2 {P : Program} {fn : Func} {p u t : Tmp} {ty : TypeId} (h : fn.results = #[.cell p ty, .tmp u, .tmp t]) (tmps : Array Value) (w : World) (g : Nat) (et : TypeId) (cs : Array Value) (fr : Nat × Nat) (d : TypeDesc)
    (hp : tmps.getD p undef = .pointer (some ⟨g, 0, none⟩)) (hg : w.heap[g]? = some (.cells cs et fr))
    (hu : P.underlying ty = some d) (hd : (match d with | .struct _ | .array _ _ => true | _ => false) = true) (hi : (P.info? ty).map (·.size) = some cs.size) :
    (results fn tmps).run P w = .ok (.tuple #[.agg cs, tmps.getD u undef, tmps.getD t undef]) w := by
  have hp' : tmps[p]?.getD undef = .pointer (some ⟨g, 0, none⟩) := by simpa using hp
  simp [results, h, hp', asAddr, run_loadVar_row w g et ty cs fr d hg hu hd hi]

theorem head_cells {w2 : World} {sb : Nat} {v : Value} {a : Nat} {e : Nat × Nat} (h : ScR w2 sb v a (some e)) :
    (∀ o, (w2.alloc o).cell? ⟨sb, 2, none⟩ = some (.int .i64 (e.1 : Int))) ∧ (∀ o, (w2.alloc o).cell? ⟨sb, 3, none⟩ = some (.int .i64 (e.2 : Int))) ∧ ((e.1 : Int) == 0) = false := by
  have key : ∀ o, ScR (w2.alloc o) sb v a (some e) := fun o => h.later (S := fun _ => False) (But.alloc (But.refl _ _ _) (Nat.le_refl _) o) h.lt id
  refine ⟨fun o => (key o).scn.c2, fun o => (key o).scn.c3, ?_⟩
  have := h.errs e rfl
  simp
  omega
end Go.Proofs.YtkpcmfgeanlcnaaDoor

/-
  How the program reads a shard, in plain words: what has come up to now; that it comes to an end.
-/
import Derived.Test.YtkpcmfgeanlcnabGreatDoorPwA
namespace Go.Proofs.YtkpcmfgeanlcnabGreatDoor
theorem sealP_short {s:St} {t:List UInt8} {e:Nat×Nat} (h:sealP s t=some e) (h4:e.1=4):t.length < s.sz:=by
  unfold sealP at h
  split at h
  · assumption
  · split at h
    · cases h
    · cases h;cases h4
theorem read_short {s:St} {t:List UInt8} {e:Nat×Nat} (h:readP s t = .error e) (h4:e.1=4):t.length < s.sz:=by
  unfold readP at h
  split at h
  · unfold headP at h
    split at h
    · cases h;cases h4
    · split at h
      · rename_i hs
        cases h
        exact sealP_short hs h4
      · split at h
        · cases h;cases h4
        · cases h
  · split at h
    · unfold manP at h
      split at h
      · rename_i hs
        cases h
        exact sealP_short hs h4
      · split at h
        · cases h;cases h4
        · split at h
          · cases h
          · cases h;cases h4
    · split at h
      · unfold frameP at h
        split at h
        · rename_i hs
          cases h
          exact sealP_short hs h4
        · split at h
          · cases h;cases h4
          · cases h
      · unfold tailP at h
        split at h
        · cases h;cases h4
        · split at h
          · assumption
          · cases h
def PlB (s:St):Prop:=(s.nx=0→s.pl=0)∧(s.nx=1→s.pl=32)∧(2≤s.nx→s.pl≤300040+9*s.col.length+(if s.nx=4 then 4 else 0))
theorem read_nx {s s':St} {t:List UInt8} (h:readP s t = .ok s'):s'.nx=s.nx∧s'.pl=s.pl∧(s.nx=1→s'.m=s.m∧s'.ln=s.ln)∧(s.nx=2→s'.ln=s.ln∧s'.col.length=s.col.length+(part t 0 (t.length - 8)).length)∧(s.nx=3→s' = s):=by
  unfold readP at h
  split at h
  · rename_i h0
    unfold headP at h
    split at h
    · cases h
    · split at h
      · cases h
      · split at h
        · cases h
        · cases h
          exact ⟨rfl,rfl,by omega,by omega,by omega⟩
  · split at h
    · unfold manP at h
      split at h
      · cases h
      · split at h
        · cases h
        · split at h
          · cases h
            exact ⟨rfl,rfl,fun _=>⟨rfl,rfl⟩,by omega,by omega⟩
          · cases h
    · split at h
      · unfold frameP at h
        split at h
        · cases h
        · split at h
          · cases h
          · cases h
            exact ⟨rfl,rfl,by omega,fun _=>⟨rfl,by simp⟩,by omega⟩
      · unfold tailP at h
        split at h
        · cases h
        · split at h
          · cases h
          · cases h
            exact ⟨rfl,rfl,by omega,by omega,fun _=>rfl⟩
def meas (nx ln cl:Nat):Nat:=if nx=0 then 200001 else if nx=1 then 200000 else if nx=2 then 2+(ln - cl) else if nx=3 then 1 else 0
theorem Good.nx2 {s:St} {Z:List UInt8} (hG:Good s Z) (h:s.nx=2):1≤s.c∧s.col.length < s.ln∧s.ln≤65536:=by
  cases hG with
  | frame h0 hm h1 f hf he=>exact ⟨hm.head.facts.2.2.2.2.2.1,h1,hm.head.facts.2.2.2.2.2.2.2.2.2⟩
  | head h0=>omega
  | man h0=>omega
  | tail h0=>omega
  | done h0=>omega
theorem move_nx (s:St) (t:List UInt8):(moveP s t).nx=nextP s∧(moveP s t).ln=s.ln∧(moveP s t).col=s.col∧(moveP s t).pl=s.pl+t.length:=⟨rfl,rfl,rfl,rfl⟩
theorem meas_lt {s s':St} {Z t:List UInt8} (hG:Good s Z) (h4:s.nx≤3) (h:readP s t = .ok s') (ht:t.length=s.sz) (hG':Good (moveP s' t) Z):meas (moveP s' t).nx (moveP s' t).ln (moveP s' t).col.length < meas s.nx s.ln s.col.length:=by
  obtain ⟨e1,e2,e3,e5,e6⟩:=read_nx h
  obtain ⟨m1,m2,m3,m4⟩:=move_nx s' t
  rw [m1,m2,m3]
  have hb:=hG'.bounds
  unfold nextP
  rw [e1]
  have h4':s.nx=0∨s.nx=1∨s.nx=2∨s.nx=3:=by omega
  rcases h4' with q | q | q | q
  · rw [q];simp [meas]
  · rw [q]
    by_cases qc:s'.col.length < s'.ln
    · have hl:=hb.2.1
      rw [m1,m2] at hl
      unfold nextP at hl
      rw [e1,q] at hl
      simp [qc] at hl
      simp [meas,qc];omega
    · simp [meas,qc]
  · rw [q]
    obtain ⟨h1,h2,h3⟩:=hG.nx2 q
    obtain ⟨h5,h6⟩:=e5 q
    have h7:1≤(part t 0 (t.length - 8)).length:=by
      rw [part_length (by omega),ht,sz2 q]
      omega
    by_cases qc:s'.col.length < s'.ln
    · simp [meas,qc];omega
    · simp [meas,qc];omega
  · rw [q];simp [meas]
theorem PlB.next {s s':St} {t:List UInt8} (hp:PlB s) (hm:s.m≤300000) (h4:s.nx≤3) (h:readP s t = .ok s') (ht:t.length=s.sz) (h2:s.nx=2→1≤min s.c (s.ln - s.col.length)):PlB (moveP s' t):=by
  obtain ⟨e1,e2,e3,e5,e6⟩:=read_nx h
  obtain ⟨m1,m2,m3,m4⟩:=move_nx s' t
  obtain ⟨p0,p1,p2⟩:=hp
  unfold PlB
  rw [m1,m3,m4,e2]
  unfold nextP
  rw [e1]
  have h4':s.nx=0∨s.nx=1∨s.nx=2∨s.nx=3:=by omega
  rcases h4' with q | q | q | q
  · rw [if_pos q]
    have:=p0 q
    have:=sz0 q
    exact ⟨by omega,fun _=>by omega,by omega⟩
  · rw [if_neg (by omega),if_neg (by omega)]
    have:=p1 q
    have:=sz1 q
    refine ⟨by split <;> omega,by split <;> omega,fun _ => ?_⟩
    omega
  · rw [if_neg (by omega),if_neg (by omega)]
    have hp2:=p2 (by omega)
    rw [if_neg (by omega)] at hp2
    obtain ⟨h5,h6⟩:=e5 q
    have hz:=sz2 q
    have h7:(part t 0 (t.length - 8)).length=t.length - 8:=part_length (by omega)
    have h8:=h2 q
    refine ⟨by split <;> omega,by split <;> omega,fun _ => ?_⟩
    omega
  · rw [if_neg (by omega),if_pos q]
    have hp2:=p2 (by omega)
    rw [if_neg (by omega)] at hp2
    have hz:=sz3 q
    have:=e6 q
    subst this
    exact ⟨by omega,by omega,fun _=>by simp;omega⟩
end Go.Proofs.YtkpcmfgeanlcnabGreatDoor

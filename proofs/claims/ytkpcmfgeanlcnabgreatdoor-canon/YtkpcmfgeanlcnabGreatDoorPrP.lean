/-
  How the program reads a shard: the head's numbers (readNumbers).
-/
import Derived.Test.YtkpcmfgeanlcnabGreatDoorPlB
import Derived.Test.YtkpcmfgeanlcnabGreatDoorPrN
import Derived.Deep.CutRange
import Derived.Deep.RegionHeld3
import Derived.Test.YtkpcmfgeanlcnabGreatDoorWrE
namespace Go.Proofs.YtkpcmfgeanlcnabGreatDoor
open Go.RowKit Go.Deep
theorem le_part' {t:List UInt8} {n:Nat}:∀ (m j:Nat) (i:Nat),i+m≤n→le (part t j n) i m=le t (j+i) m
  | 0,_,_,_=>rfl
  | m+1,j,i,h=>by
    show bAt (part t j n) i+256*le (part t j n) (i+1) m=bAt t (j+i)+256*le t (j+i+1) m
    rw [part_at (by omega),le_part' m j (i+1) (by omega),Nat.add_assoc]
set_option maxHeartbeats 1000000 in
set_option maxRecDepth 100000 in
theorem numB_any (bx b off ct:Nat) (u:List UInt8) (hu:u.length=24) (hct:24≤ct) (A N:Int) (a n:Nat) (hA:A=a) (hN:N=n) (hn:n≤4) (ha:a+n≤24) (ha2:a < 24) (w:World) (h:w.cell? ⟨bx,0,none⟩=some (.slice (some ⟨b,off,none⟩) 24 ct)) (hB:Byt w b off u) :
    Calls Tryz.prog 146 #[.int .i64 A,.int .i64 N,.pointer (some ⟨bx,0,none⟩)] w fun q w'=>q = .returned (.int .i64 (le u a n:Nat))∧w' = w:=by
  subst hA hN
  have hP:(part u a n).length=n:=part_length (by omega)
  have K:=fun cap=>readNumber_any b (off+a) n cap (part u a n) hP (by omega) w (hB.part (by omega))
  have hle:le (part u a n) 0 n=le u a n:=le_part' n a 0 (by omega)
  have hlt:le u a n < 2 ^ 32:=Nat.lt_of_lt_of_le (le_lt u n a) (by rw [show (2:Nat) ^ 32=256 ^ 4 from rfl];exact Nat.pow_le_pow_right (by omega) hn)
  rw [hle] at K
  obtain ⟨y,ey⟩:∃ y,le u a n=y:=⟨_,rfl⟩
  rw [ey] at K hlt ⊢
  have sl:=slice_part b off 24 ct (a:Int) ((a:Int)+(n:Int)) a (a+n) rfl (by simp) (by omega) (by omega) (by omega)
  rw [show a+n - a=n by omega] at sl
  clear ey hle hP hB hu
  go_enter Tryz.func146,Tryz.ntmps146
  go_wp2_with (first | (go_at_call 145;refine (K _).mono ?_;rintro q w' ⟨rfl,hw'⟩;obtain rfl:=hw'.symm))
  go_ret
  exact ⟨rfl,rfl⟩
def Rd.nums (r:Rd) (u:List UInt8):Rd:={ r with k:=le u 6 1,n:=le u 7 1,i:=le u 8 1,c:=le u 10 4,m:=le u 14 4,ln:=le u 18 4 }
def NumsPost (w:World) (rb:Nat) (r:Rd) (u:List UInt8) (q:Ending) (w':World):Prop:=
  But w.heap.size (· = rb) w w' ∧ RdAt w' rb (r.nums u)∧match numsE (numsP u) with
    | some p=>∃ v,q = .returned v∧Chain w' 0 v 1 p
    | none=>q = .returned .nilIface
theorem nums_kept {w w3 w':World} {rb:Nat} {R:Rd} (hA:But w.heap.size (· = rb) w w3) (hR:RdAt w3 rb R) (hb:Below w3.heap.size w3 w'):But w.heap.size (· = rb) w w' ∧ RdAt w' rb R:=
  ⟨hA.trans (.of_below (hb.mono hA.size)),RowAt.later hR (S:=fun _=>False) (.of_below hb) (RowAt.lt hR) id⟩
def numsP8 (u:List UInt8):List Value:=[.int .i64 6,.int .i64 (le u 6 1:Nat),.int .i64 1,.int .i64 128,.int .i64 7,.int .i64 (le u 7 1:Nat),.int .i64 (le u 6 1:Nat),.int .i64 128,.int .i64 8,.int .i64 (le u 8 1:Nat),.int .i64 0,.int .i64 ((le u 7 1:Nat) - 1),.int .i64 9,.int .i64 (le u 9 1:Nat),.int .i64 0,.int .i64 0,.int .i64 10,.int .i64 (le u 10 4:Nat),.int .i64 1,.int .i64 65536,.int .i64 14,.int .i64 (le u 14 4:Nat),.int .i64 4,.int .i64 300000,.int .i64 18,.int .i64 (le u 18 4:Nat),.int .i64 0,.int .i64 65536,.int .i64 22,.int .i64 (le u 22 2:Nat),.int .i64 0,.int .i64 0]
section
variable (rb:Nat) (r:Rd) (u:List UInt8) (b off ct:Nat) (hu:u.length=24) (hct:24≤ct) (hbr:b≠rb) (w:World) (h:RdAt w rb r) (hB:Byt w b off u)
set_option maxHeartbeats 8000000 in
set_option maxRecDepth 100000 in
include hu hct hbr h hB in
theorem readNumbers_any :
    Calls Tryz.prog 142 #[.pointer (some ⟨rb,0,none⟩),.slice (some ⟨b,off,none⟩) 24 ct] w fun q w'=>NumsPost w rb r u q w':=by
  have hrb:=RowAt.lt h
  have hbb:b < w.heap.size:=cell_lt (hB 0 (by omega))
  have hA:=(But.refl w.heap.size (· = rb) w).alloc (Nat.le_refl _) (.cells #[Value.slice (some ⟨b,off,none⟩) 24 ct] 33)
  have hx0:RowAt (w.alloc (.cells #[Value.slice (some ⟨b,off,none⟩) 24 ct] 33)) w.heap.size [.slice (some ⟨b,off,none⟩) 24 ct] 33:=RowAt.made w _ _
  have hR0:RdAt (w.alloc (.cells #[Value.slice (some ⟨b,off,none⟩) 24 ct] 33)) rb r:=by
    unfold RdAt RowAt at *
    rw [Below.heap_alloc w _ rb hrb];exact h
  have hB0:=hB.later hA hbb hbr
  have hN:∀ a n,n≤4→le u a n < 2 ^ 32:=fun a n hn=>Nat.lt_of_lt_of_le (le_lt u n a) (by rw [show (2:Nat) ^ 32=256 ^ 4 from rfl];exact Nat.pow_le_pow_right (by omega) hn)
  go_enter Tryz.func142,Tryz.ntmps142
  go_upto_region 3 with (fail)
  obtain ⟨bx,ebx⟩:∃ bx,w.heap.size=bx:=⟨_,rfl⟩
  have hxr:bx≠rb:=by omega
  have hxb:bx≠b:=by omega
  rw [ebx] at hx0 ⊢
  have EB:Hid (w.heap.size=bx):=ebx
  clear ebx h hB
  generalize w.alloc (.cells #[Value.slice (some ⟨b,off,none⟩) 24 ct] 33)=w0 at hA hx0 hR0 hB0 ⊢
  have f0:=RowAt.frozen hR0
  have c0:=RowAt.cell hR0 (i:=0) rfl
  have c1:=RowAt.cell hR0 (i:=1) rfl
  have c2:=RowAt.cell hR0 (i:=2) rfl
  have c3:=RowAt.cell hR0 (i:=3) rfl
  go_upto_region 4 with (first | (go_at_call 146;refine (numB_any _ b off ct u hu hct _ _ 6 1 (by rfl) (by rfl) (by omega) (by omega) (by omega) _ (by exact hx0.cell rfl) (by exact hB0)).mono ?_;rintro q w' ⟨rfl,hw'⟩;obtain rfl:=hw'.symm) | (go_at_call 146;refine (numB_any _ b off ct u hu hct _ _ 7 1 (by rfl) (by rfl) (by omega) (by omega) (by omega) _ (by exact hx0.cell rfl) (by exact hB0)).mono ?_;rintro q w' ⟨rfl,hw'⟩;obtain rfl:=hw'.symm) | (go_at_call 146;refine (numB_any _ b off ct u hu hct _ _ 8 1 (by rfl) (by rfl) (by omega) (by omega) (by omega) _ (by exact hx0.cell rfl) (by exact hB0)).mono ?_;rintro q w' ⟨rfl,hw'⟩;obtain rfl:=hw'.symm) | (go_at_call 146;refine (numB_any _ b off ct u hu hct _ _ 10 4 (by rfl) (by rfl) (by omega) (by omega) (by omega) _ (by exact hx0.cell rfl) (by exact hB0)).mono ?_;rintro q w' ⟨rfl,hw'⟩;obtain rfl:=hw'.symm))
  have hR1:RdAt _ rb { r with k:=le u 6 1,n:=le u 7 1,i:=le u 8 1,c:=le u 10 4 }:=(((RowAt.set hR0 0 (.int .i64 (le u 6 1:Nat))).set 1 (.int .i64 (le u 7 1:Nat))).set 2 (.int .i64 (le u 8 1:Nat))).set 3 (.int .i64 (le u 10 4:Nat))
  have hA1:But w.heap.size (· = rb) w _:=(((hA.setCell (p:=⟨rb,0,none⟩) (.inr rfl) (.int .i64 (le u 6 1:Nat))).setCell (p:=⟨rb,1,none⟩) (.inr rfl) (.int .i64 (le u 7 1:Nat))).setCell (p:=⟨rb,2,none⟩) (.inr rfl) (.int .i64 (le u 8 1:Nat))).setCell (p:=⟨rb,3,none⟩) (.inr rfl) (.int .i64 (le u 10 4:Nat))
  have hAA:But w0.heap.size (· = rb) w0 _:=((((But.refl w0.heap.size (· = rb) w0).setCell (p:=⟨rb,0,none⟩) (.inr rfl) (.int .i64 (le u 6 1:Nat))).setCell (p:=⟨rb,1,none⟩) (.inr rfl) (.int .i64 (le u 7 1:Nat))).setCell (p:=⟨rb,2,none⟩) (.inr rfl) (.int .i64 (le u 8 1:Nat))).setCell (p:=⟨rb,3,none⟩) (.inr rfl) (.int .i64 (le u 10 4:Nat))
  have hx1:=hx0.later hAA hx0.lt hxr
  have hB1:=hB0.later hAA (cell_lt (hB0 0 (by omega))) hbr
  clear hAA hA hx0 hB0 hR0 f0 c0 c1 c2 c3
  generalize (((w0.setCell ⟨rb,0,none⟩ (.int .i64 (le u 6 1:Nat))).setCell ⟨rb,1,none⟩ (.int .i64 (le u 7 1:Nat))).setCell ⟨rb,2,none⟩ (.int .i64 (le u 8 1:Nat))).setCell ⟨rb,3,none⟩ (.int .i64 (le u 10 4:Nat))=w1 at hA1 hx1 hR1 hB1 ⊢
  have f0:=RowAt.frozen hR1
  have c7:=RowAt.cell hR1 (i:=7) rfl
  have c8:=RowAt.cell hR1 (i:=8) rfl
  go_upto_region 5 with (first | (go_at_call 146;refine (numB_any _ b off ct u hu hct _ _ 14 4 (by rfl) (by rfl) (by omega) (by omega) (by omega) _ (by exact hx1.cell rfl) (by exact hB1)).mono ?_;rintro q w' ⟨rfl,hw'⟩;obtain rfl:=hw'.symm) | (go_at_call 146;refine (numB_any _ b off ct u hu hct _ _ 18 4 (by rfl) (by rfl) (by omega) (by omega) (by omega) _ (by exact hx1.cell rfl) (by exact hB1)).mono ?_;rintro q w' ⟨rfl,hw'⟩;obtain rfl:=hw'.symm))
  have hR2:RdAt _ rb (r.nums u):=((RowAt.set hR1 7 (.int .i64 (le u 14 4:Nat))).set 8 (.int .i64 (le u 18 4:Nat)))
  have hA2:But w.heap.size (· = rb) w _:=(hA1.setCell (p:=⟨rb,7,none⟩) (.inr rfl) (.int .i64 (le u 14 4:Nat))).setCell (p:=⟨rb,8,none⟩) (.inr rfl) (.int .i64 (le u 18 4:Nat))
  have hAA:But w1.heap.size (· = rb) w1 _:=((But.refl w1.heap.size (· = rb) w1).setCell (p:=⟨rb,7,none⟩) (.inr rfl) (.int .i64 (le u 14 4:Nat))).setCell (p:=⟨rb,8,none⟩) (.inr rfl) (.int .i64 (le u 18 4:Nat))
  have hx2:=hx1.later hAA hx1.lt hxr
  have hB2:=hB1.later hAA (cell_lt (hB1 0 (by omega))) hbr
  clear hAA hA1 hx1 hB1 hR1 f0 c7 c8
  generalize (w1.setCell ⟨rb,7,none⟩ (.int .i64 (le u 14 4:Nat))).setCell ⟨rb,8,none⟩ (.int .i64 (le u 18 4:Nat))=w2 at hA2 hx2 hR2 hB2 ⊢
  have c0:=RowAt.cell hR2 (i:=0) rfl
  have c1:=RowAt.cell hR2 (i:=1) rfl
  have c2:=RowAt.cell hR2 (i:=2) rfl
  have c3:=RowAt.cell hR2 (i:=3) rfl
  have c7:=RowAt.cell hR2 (i:=7) rfl
  have c8:=RowAt.cell hR2 (i:=8) rfl
  simp only [Rd.nums] at c0 c1 c2 c3 c7 c8
  have K9:=numB_any _ b off ct u hu hct 9 1 9 1 rfl rfl (by omega) (by omega) (by omega) w2.drew (show w2.drew.cell? _=_ from hx2.cell rfl) (show Byt w2.drew b off u from hB2)
  have K22:=numB_any _ b off ct u hu hct 22 2 22 2 rfl rfl (by omega) (by omega) (by omega) w2.drew (show w2.drew.cell? _=_ from hx2.cell rfl) (show Byt w2.drew b off u from hB2)
  have h7:=hN 7 1 (by omega)
  have HM:Hid _:=hN
  clear hN
  go_region_held3 (fun w'=>w'.cell? ⟨rb,0,none⟩=some (.int .i64 (le u 6 1:Nat))∧w'.cell? ⟨rb,1,none⟩=some (.int .i64 (le u 7 1:Nat))∧w'.cell? ⟨rb,2,none⟩=some (.int .i64 (le u 8 1:Nat))∧w'.cell? ⟨rb,3,none⟩=some (.int .i64 (le u 10 4:Nat))∧w'.cell? ⟨rb,7,none⟩=some (.int .i64 (le u 14 4:Nat))∧w'.cell? ⟨rb,8,none⟩=some (.int .i64 (le u 18 4:Nat))) (go_keep)
    (first | (go_at_call 146;with_reducible refine K9.mono ?_;rintro e w' ⟨rfl,hw'⟩;obtain rfl:=hw'.symm) | (go_at_call 146;with_reducible refine K22.mono ?_;rintro e w' ⟨rfl,hw'⟩;obtain rfl:=hw'.symm))
  have hwr:IntKind.i64.wrap ((le u 7 1:Nat) - 1:Int)=(le u 7 1:Nat) - 1:=IntWalk.i64_in _ (by omega)
  rw [hwr]
  clear hwr K9 K22 c0 c1 c2 c3 c7 c8
  have hA3:But w.heap.size (· = rb) w _:=(hA2.alloc (by have:=hA2.size;omega) (.cells (numsP8 u).toArray 230)).drew
  have hR3:RdAt ((w2.alloc (.cells (numsP8 u).toArray 230)).drew) rb (r.nums u):=by
    have:=RowAt.later hR2 (S:=fun _=>False) ((But.refl w2.heap.size _ w2).alloc (Nat.le_refl _) (.cells (numsP8 u).toArray 230)) (RowAt.lt hR2) id
    exact this
  have hV3:RowAt ((w2.alloc (.cells (numsP8 u).toArray 230)).drew) w2.heap.size (numsP8 u) 230:=RowAt.made w2 _ _
  unfold numsP8 at hA3 hR3 hV3
  obtain ⟨g,eg⟩:∃ g,w2.heap.size=g:=⟨_,rfl⟩
  rw [eg] at hV3 ⊢
  generalize (w2.alloc _).drew=w3 at hA3 hR3 hV3 ⊢
  clear hA2 hR2 hx2 hB2 eg
  have hrow:∀ c,c < 8→∃ (p v:Nat) (lo hi:Int),(numsP u).drop c=(p,v,lo,hi) :: (numsP u).drop (c+1)∧w3.cell? ⟨g,c*4,none⟩=some (.int .i64 (p:Int))∧w3.cell? ⟨g,c*4+1,none⟩=some (.int .i64 (v:Int))∧w3.cell? ⟨g,c*4+2,none⟩=some (.int .i64 lo)∧w3.cell? ⟨g,c*4+3,none⟩=some (.int .i64 hi):=by
    intro c hc
    match c,hc with
    | 0,_=>exact ⟨6,_,_,_,rfl,hV3.cell rfl,hV3.cell rfl,hV3.cell rfl,hV3.cell rfl⟩
    | 1,_=>exact ⟨7,_,_,_,rfl,hV3.cell rfl,hV3.cell rfl,hV3.cell rfl,hV3.cell rfl⟩
    | 2,_=>exact ⟨8,_,_,_,rfl,hV3.cell rfl,hV3.cell rfl,hV3.cell rfl,hV3.cell rfl⟩
    | 3,_=>exact ⟨9,_,_,_,rfl,hV3.cell rfl,hV3.cell rfl,hV3.cell rfl,hV3.cell rfl⟩
    | 4,_=>exact ⟨10,_,_,_,rfl,hV3.cell rfl,hV3.cell rfl,hV3.cell rfl,hV3.cell rfl⟩
    | 5,_=>exact ⟨14,_,_,_,rfl,hV3.cell rfl,hV3.cell rfl,hV3.cell rfl,hV3.cell rfl⟩
    | 6,_=>exact ⟨18,_,_,_,rfl,hV3.cell rfl,hV3.cell rfl,hV3.cell rfl,hV3.cell rfl⟩
    | 7,_=>exact ⟨22,_,_,_,rfl,hV3.cell rfl,hV3.cell rfl,hV3.cell rfl,hV3.cell rfl⟩
  have hg3:g < w3.heap.size:=hV3.lt
  clear hV3 h7 HM hu hct hbr
  go_wp2
  go_loopw [90] (fun vi wr=>∃ c:Nat,c≤8∧vi = .int .i64 (c:Int)∧Below w3.heap.size w3 wr∧Hid (numsE (numsP u)=numsE ((numsP u).drop c))) (fun i _=>8 - (intOf i).toNat)
  case atStart=>exact ⟨0,by omega,rfl,Below.refl _ _,rfl⟩
  case round=>
    obtain ⟨c,hc,rfl,hb,H⟩:=hrel
    by_cases hlt:c < 8
    · obtain ⟨p,v,lo,hi,e1,d0,d1,d2,d3⟩:=hrow c hlt
      have H2:Hid (numsE (numsP u)=if (v:Int) < lo∨hi < (v:Int) then some p else numsE ((numsP u).drop (c+1))):=by
        show _=_
        rw [H.out,e1];rfl
      rw [← hb.cell (p:=⟨g,c*4,none⟩) hg3] at d0
      rw [← hb.cell (p:=⟨g,c*4+1,none⟩) hg3] at d1
      rw [← hb.cell (p:=⟨g,c*4+2,none⟩) hg3] at d2
      rw [← hb.cell (p:=⟨g,c*4+3,none⟩) hg3] at d3
      clear hrow e1 H
      by_cases q1:(v:Int) < lo
      · have HB:Hid (numsE (numsP u)=some p):=by show _=_;rw [H2.out,if_pos (.inl q1)]
        go_wp2_with (first | (go_at_call 77;refine (at_any _ _ 1 p (by rfl) (by rfl) _).mono ?_;rintro q w5 ⟨v5,rfl,g1,g2⟩))
        go_ret
        have hb5:Below w3.heap.size w3 w5:=(hb.alloc hb.size _).trans (g2.mono (by simp;have:=hb.size;omega))
        obtain ⟨z1,z2⟩:=nums_kept hA3 hR3 hb5
        refine ⟨z1,z2,?_⟩
        rw [HB.out]
        exact ⟨_,rfl,g1⟩
      · by_cases q2:hi < (v:Int)
        · have HB:Hid (numsE (numsP u)=some p):=by show _=_;rw [H2.out,if_pos (.inr q2)]
          go_wp2_with (first | (go_at_call 77;refine (at_any _ _ 1 p (by rfl) (by rfl) _).mono ?_;rintro q w5 ⟨v5,rfl,g1,g2⟩))
          go_ret
          have hb5:Below w3.heap.size w3 w5:=(hb.alloc hb.size _).trans (g2.mono (by simp;have:=hb.size;omega))
          obtain ⟨z1,z2⟩:=nums_kept hA3 hR3 hb5
          refine ⟨z1,z2,?_⟩
          rw [HB.out]
          exact ⟨_,rfl,g1⟩
        · have HB:Hid (numsE (numsP u)=numsE ((numsP u).drop (c+1))):=by
            show _=_
            rw [H2.out,if_neg (by omega)]
          clear H2
          go_wp2
          go_roundw
          case rel=>exact ⟨c+1,by omega,by go_num,by first | exact hb.alloc hb.size _ | exact (hb.alloc hb.size _).setCell (by simp;have:=hb.size;omega) _,HB⟩
          case measure=>simp [intOf];omega
    · obtain rfl:c=8:=by omega
      have HB:Hid (numsE (numsP u)=none):=H
      clear hrow
      go_wp2
      go_ret
      obtain ⟨z1,z2⟩:=nums_kept hA3 hR3 hb
      refine ⟨z1,z2,?_⟩
      rw [HB.out]
      exact rfl
end
def ReadOut (B:Nat) (w:World) (rb:Nat) (s:St) (t:List UInt8) (vN vS vC vT:Value) (R:Except (Nat×Nat) St) (D:Nat) (q:Ending) (w':World):Prop:=
  But w.heap.size (Mine rb vC vT) w w' ∧ match R with
  | .error e=>(∃ v d,d≤D∧q = .returned v∧Chain w' d v e.1 e.2)∧(∃ r',RdAt w' rb r')∧(e.1=4→RI B w' rb s t vN vS vC vT)
  | .ok s'=>q = .returned .nilIface∧∃ vN' vS' vC',RI B w' rb s' t vN' vS' vC' vT∧(vC'.ownBlock=vC.ownBlock∨∃ g,vC'.ownBlock=some g∧w.heap.size≤g)
theorem RI.below {B rb:Nat} {w w':World} {s:St} {t:List UInt8} {vN vS vC vT:Value} (I:RI B w rb s t vN vS vC vT) (hb:Below w.heap.size w w'):RI B w' rb s t vN vS vC vT:=by
  have key:∀ {e n:Nat} {v:Value} {xs:List Value},w.ownsRow B e 1 v n xs→w'.ownsRow B e 1 v n xs:=fun h=>owns_later h (fun g hg'=>hb.block g (h.lt g hg').2)
  exact ⟨RowAt.later I.rd (S:=fun _=>False) (.of_below hb) (RowAt.lt I.rd) id,key I.on,key I.os,key I.oc,key I.ot,I.ap,Nat.le_trans I.size hb.size⟩
theorem ReadOut.fault {B:Nat} {w w':World} {rb:Nat} {s:St} {t:List UInt8} {vN vS vC vT v:Value} {e:Nat×Nat} {d D:Nat} (I:RI B w rb s t vN vS vC vT) (hd:d≤D) (h:Chain w' d v e.1 e.2) (hb:Below w.heap.size w w'):ReadOut B w rb s t vN vS vC vT (.error e) D (.returned v) w':=
  ⟨.of_below hb,⟨v,d,hd,rfl,h⟩,⟨_,(I.below hb).rd⟩,fun _=>I.below hb⟩
theorem below_of_drewN {w w':World} {j:Nat} (h:Below (w.drewN j).heap.size (w.drewN j) w'):Below w.heap.size w w':=⟨h.os,h.tape,h.output,h.size,h.block⟩
theorem RI.turn {B rb:Nat} {w w':World} {s s':St} {t:List UInt8} {vN vS vC vT:Value} (I:RI B w rb s t vN vS vC vT) (hB:But w.heap.size (· = rb) w w') (hR:RdAt w' rb (s'.rd vN vS vC vT .nilIface)) (h1:s'.ns=s.ns) (h2:s'.zs=s.zs) (h3:s'.col=s.col):RI B w' rb s' t vN vS vC vT:=by
  have key:∀ {e n:Nat} {v:Value} {xs:List Value},w.ownsRow B e 1 v n xs→e≠91→w'.ownsRow B e 1 v n xs:=fun h he=>owns_later h (fun g hg'=>hB.block g (h.lt g hg').2 (fun e=>owns_rd h I.rd he (by rw [hg',e])))
  exact ⟨hR,by rw [h1];exact key I.on (by decide),by rw [h2];exact key I.os (by decide),by rw [h3];exact key I.oc (by decide),key I.ot (by decide),I.ap,Nat.le_trans I.size hB.size⟩
theorem numsP_part {t:List UInt8}:numsP (part t 0 24)=numsP t:=by
  have h:∀ a n,a+n≤24→le (part t 0 24) a n=le t a n:=fun a n hn=>by rw [le_part' n 0 a hn,Nat.zero_add]
  unfold numsP
  rw [h 6 1 (by omega),h 7 1 (by omega),h 8 1 (by omega),h 9 1 (by omega),h 10 4 (by omega),h 14 4 (by omega),h 18 4 (by omega),h 22 2 (by omega)]
section
variable (B rb:Nat) (s:St) (t:List UInt8) (vN vS vC vT:Value) (hb:Bd s) (ht:t.length≤s.sz) (w:World) (I:RI B w rb s t vN vS vC vT) (hTab:Tab w)
set_option maxHeartbeats 4000000 in
set_option maxRecDepth 100000 in
include hb ht I in
theorem readTail_any (hnx:s.nx=3):Calls Tryz.prog 134 #[.pointer (some ⟨rb,0,none⟩)] w fun q w'=>ReadOut B w rb s t vN vS vC vT (tailP s t) 0 q w':=by
  obtain ⟨bc,cc,eC,hcc⟩:=I.oc.slice
  obtain ⟨bt,ct,eT,hct⟩:=I.ot.slice
  have hz:=St.sz_le hb
  have KB:Calls Tryz.prog 140 #[.pointer (some ⟨rb,0,none⟩),.string ⟨#[68,79,78,69]⟩] w fun q w'=>Begins w t magic2 s.pl q w':=
    begins_any rb (s.rd vN vS vC vT .nilIface) t magic2 (by decide) (by omega) (by have:=hb.pl;exact Nat.le_trans this (by omega)) w I.rd I.ot.lies
  have KY:=fun j=>whole_yes rb (s.rd vN vS vC vT .nilIface) bc s.col.length cc eC (by have:=hb.m;exact Nat.le_trans this (by omega)) (by have:=hb.c;exact Nat.le_trans this (by omega)) (by have:=hb.ln;exact Nat.le_trans this (by omega)) hb.col (by rw [show (s.rd vN vS vC vT .nilIface).nx=s.nx from rfl];omega) bt t.length ct eT (w.drewN j) I.rd
  have KN:=fun j=>whole_no rb (s.rd vN vS vC vT .nilIface) bc s.col.length cc eC (by have:=hb.m;exact Nat.le_trans this (by omega)) (by have:=hb.c;exact Nat.le_trans this (by omega)) (by have:=hb.ln;exact Nat.le_trans this (by omega)) hb.col (by rw [show (s.rd vN vS vC vT .nilIface).nx=s.nx from rfl];omega) bt t.length ct eT (by omega) (by have:=hb.pl;exact Nat.le_trans this (by omega)) (w.drewN j) I.rd
  have hsz:sizeR s.nx s.c s.m s.ln s.col.length=s.sz:=rfl
  simp only [St.rd,hsz] at KY KN
  unfold tailP
  cases hbe:begE t magic2 with
  | some i=>
    have HB:Hid (begE t magic2=some i):=hbe
    clear KY KN hbe
    unfold Begins at KB
    rw [HB.out] at KB
    simp only at KB
    go_enter Tryz.func134,Tryz.ntmps134
    go_wp2_with (first | (go_at_call 140;refine KB.mono ?_;rintro q w2 ⟨v,rfl,g1,g2⟩;obtain ⟨ty,x,rfl⟩:=g1.iface))
    go_ret
    exact ReadOut.fault I (Nat.le_refl _) g1 g2
  | none=>
    unfold Begins at KB
    rw [hbe] at KB
    simp only at KB ⊢
    by_cases q:t.length < s.sz
    · rw [if_pos q]
      have K:=fun j=>KN j q
      clear KY KN hbe
      go_enter Tryz.func134,Tryz.ntmps134
      go_wp2_with (first | (go_at_call 140;refine KB.mono ?_;rintro q w2 ⟨rfl,j,hw2⟩;obtain rfl:=hw2.symm) | (go_at_call 144;refine (K _).mono ?_;rintro q w2 ⟨v,rfl,g1,g2⟩))
      go_ret
      exact ReadOut.fault I (Nat.le_refl _) g1 (below_of_drewN g2)
    · rw [if_neg q]
      have K:=fun j=>KY j (by omega)
      clear KY KN hbe
      go_enter Tryz.func134,Tryz.ntmps134
      go_wp2_with (first | (go_at_call 140;refine KB.mono ?_;rintro q w2 ⟨rfl,j,hw2⟩;obtain rfl:=hw2.symm) | (go_at_call 144;refine (K _).mono ?_;rintro q w2 ⟨rfl,j2,hw2⟩;obtain rfl:=hw2.symm))
      go_ret
      refine ⟨((But.refl _ _ _).drewN _),rfl,vN,vS,vC,I.drewN _,.inl rfl⟩
set_option maxHeartbeats 4000000 in
set_option maxRecDepth 100000 in
include hb ht I hTab in
theorem readHead_any (hnx:s.nx=0):Calls Tryz.prog 131 #[.pointer (some ⟨rb,0,none⟩)] w fun q w'=>ReadOut B w rb s t vN vS vC vT (headP s t) 0 q w':=by
  obtain ⟨bc,cc,eC,hcc⟩:=I.oc.slice
  obtain ⟨bt,ct,eT,hct⟩:=I.ot.slice
  have hz:=St.sz_le hb
  have hz0:=sz0 hnx
  have KB:Calls Tryz.prog 140 #[.pointer (some ⟨rb,0,none⟩),.string ⟨#[67,65,73,82,78,49]⟩] w fun q w'=>Begins w t magic1 s.pl q w':=
    begins_any rb (s.rd vN vS vC vT .nilIface) t magic1 (by decide) (by omega) (by have:=hb.pl;exact Nat.le_trans this (by omega)) w I.rd I.ot.lies
  have KS:=fun j=>rsealed_any rb (s.rd vN vS vC vT .nilIface) bc s.col.length cc eC (by have:=hb.m;exact Nat.le_trans this (by omega)) (by have:=hb.c;exact Nat.le_trans this (by omega)) (by have:=hb.ln;exact Nat.le_trans this (by omega)) hb.col (by rw [show (s.rd vN vS vC vT .nilIface).nx=s.nx from rfl];omega) t bt ct eT (by omega) (by have:=hb.pl;exact Nat.le_trans this (by omega)) (w.drewN j) I.rd I.ot.lies (hTab.heap rfl)
  have hsz:sizeR s.nx s.c s.m s.ln s.col.length=s.sz:=rfl
  simp only [St.rd,hsz] at KS
  have hSP:sealT s.sz s.pl t=sealP s t:=rfl
  simp only [hSP] at KS
  unfold headP
  cases hbe:begE t magic1 with
  | some i=>
    have HB:Hid (begE t magic1=some i):=hbe
    clear KS hbe
    unfold Begins at KB
    rw [HB.out] at KB
    simp only at KB
    go_enter Tryz.func131,Tryz.ntmps131
    go_wp2_with (first | (go_at_call 140;refine KB.mono ?_;rintro q w2 ⟨v,rfl,g1,g2⟩;obtain ⟨ty,x,rfl⟩:=g1.iface))
    go_ret
    exact ReadOut.fault I (Nat.le_refl _) g1 g2
  | none=>
    unfold Begins at KB
    rw [hbe] at KB
    simp only at KB ⊢
    cases hse:sealP s t with
    | some e=>
      unfold SealPost at KS
      rw [hse] at KS
      simp only at KS ⊢
      clear hbe hse
      go_enter Tryz.func131,Tryz.ntmps131
      go_wp2_with (first | (go_at_call 140;refine KB.mono ?_;rintro q w2 ⟨rfl,j,hw2⟩;obtain rfl:=hw2.symm) | (go_at_call 141;refine (KS _).mono ?_;rintro q w2 ⟨v,rfl,g1,g2⟩;obtain ⟨ty,x,rfl⟩:=g1.iface))
      go_ret
      exact ReadOut.fault I (Nat.le_refl _) g1 (below_of_drewN g2)
    | none=>
      unfold SealPost at KS
      rw [hse] at KS
      simp only at KS ⊢
      have hl32:t.length=32:=by
        unfold sealP at hse
        split at hse
        · cases hse
        · omega
      have hby:∃ b off,bt=some ⟨b,off,none⟩∧Byt w b off t∧b≠rb:=by
        have hot:=I.ot
        have hne:=owns_rd I.ot I.rd (by decide)
        unfold OwnB at hot
        obtain ⟨g,c,e,_,_,_,_,hB⟩:=owns_byt hot (by omega)
        rw [eT] at e hne
        cases e
        exact ⟨g,0,rfl,hB,fun e=>hne (by rw [e];rfl)⟩
      obtain ⟨b,off,rfl,hB,hbr⟩:=hby
      have hu:(part t 0 24).length=24:=part_length (by omega)
      have KR:=fun j=>readNumbers_any rb (s.rd vN vS vC vT .nilIface) (part t 0 24) b off ct hu (by omega) hbr (w.drewN j) I.rd (by have:=hB.part (a:=0) (n:=24) (by omega);exact this)
      unfold NumsPost at KR
      rw [numsP_part] at KR
      have hle:∀ a n,a+n≤24→le (part t 0 24) a n=le t a n:=fun a n hn=>by rw [le_part' n 0 a hn,Nat.zero_add]
      have hrd:(s.rd vN vS vC vT .nilIface).nums (part t 0 24)=({ s with k:=le t 6 1,n:=le t 7 1,i:=le t 8 1,c:=le t 10 4,m:=le t 14 4,ln:=le t 18 4 }:St).rd vN vS vC vT .nilIface:=by
        unfold Rd.nums St.rd
        simp only
        rw [hle 6 1 (by omega),hle 7 1 (by omega),hle 8 1 (by omega),hle 10 4 (by omega),hle 14 4 (by omega),hle 18 4 (by omega)]
      rw [hrd] at KR
      rw [hl32] at KS
      simp only [show 32 - 8=24 from rfl] at KS
      have hBM:∀ {j:Nat} {w':World},But (w.drewN j).heap.size (· = rb) (w.drewN j) w' → But w.heap.size (· = rb) w w':=fun h=>((But.refl w.heap.size _ w).drewN _).trans h
      clear hbe hse hle hrd
      cases hnu:numsE (numsP t) with
      | some p=>
        rw [hnu] at KR
        simp only at KR ⊢
        clear hnu
        go_enter Tryz.func131,Tryz.ntmps131
        go_wp2_with (first | (go_at_call 140;refine KB.mono ?_;rintro q w2 ⟨rfl,j,hw2⟩;obtain rfl:=hw2.symm) | (go_at_call 141;refine (KS _).mono ?_;rintro q w2 ⟨rfl,j2,hw2⟩;obtain rfl:=hw2.symm) | (go_at_call 142;refine (KR _).mono ?_;rintro q w3 ⟨g1,g2,v,rfl,g3⟩))
        go_ret
        exact ⟨(hBM g1).mono (Nat.le_refl _) (fun _ x=>.inl x),⟨v,0,Nat.le_refl _,rfl,g3⟩,⟨_,g2⟩,fun h=>by cases h⟩
      | none=>
        rw [hnu] at KR
        simp only at KR ⊢
        clear hnu
        go_enter Tryz.func131,Tryz.ntmps131
        go_wp2_with (first | (go_at_call 140;refine KB.mono ?_;rintro q w2 ⟨rfl,j,hw2⟩;obtain rfl:=hw2.symm) | (go_at_call 141;refine (KS _).mono ?_;rintro q w2 ⟨rfl,j2,hw2⟩;obtain rfl:=hw2.symm) | (go_at_call 142;refine (KR _).mono ?_;rintro q w3 ⟨g1,g2,rfl⟩))
        go_ret
        exact ⟨(hBM g1).mono (Nat.le_refl _) (fun _ x=>.inl x),rfl,vN,vS,vC,I.turn (hBM g1) g2 rfl rfl rfl,.inl rfl⟩
end
theorem firstI_pad (u:List UInt8) (F:Int):firstI u F=match padP u F with | some m=>(m:Int) | none => -1:=rfl
theorem usedI_small (k i t:Nat) (hk:1≤k) (ht:t≤65536):0≤usedI k i t∧usedI k i t≤65536:=by
  have h1:=lenC_le hk t
  unfold usedI
  split <;> omega
theorem RI.column {B rb:Nat} {w w1:World} {s:St} {t x:List UInt8} {vN vS vC vT v1:Value} (I:RI B w rb s t vN vS vC vT) (h1:OwnB B w1 v1 (s.col++x)) (hg:w.grownBy w1 vC.ownBlock) (hk:v1.ownBlock=vC.ownBlock∨v1.ownBlock=some w.heap.size) :
    RI B (w1.setCell ⟨rb,6,none⟩ v1) rb { s with col:=s.col++x } t vN vS v1 vT∧But w.heap.size (Mine rb vC vT) w (w1.setCell ⟨rb,6,none⟩ v1)∧w1.cell? ⟨rb,6,none⟩=some vC∧w1.frozen? ⟨rb,6,none⟩=false:=by
  have hrlt:=RowAt.lt I.rd
  have hT:=owns_rd I.oc I.rd (by decide)
  have hR1:RdAt w1 rb (s.rd vN vS vC vT .nilIface):=by
    unfold RdAt RowAt at *
    rw [hg.block rb hrlt (fun e=>hT e.symm)]
    exact I.rd
  have key:∀ {e n:Nat} {v:Value} {xs:List Value},w.ownsRow B e 1 v n xs→Apart2 v vC→w1.ownsRow B e 1 v n xs:=fun h ha=>owns_later h (fun g hg'=>hg.block g (h.lt g hg').2 (fun e=>ha g hg' e.symm))
  have hN1:=key I.on (owns_apart I.on I.oc (by decide))
  have hS1:=key I.os (owns_apart I.os I.oc (by decide))
  have hT1:=key I.ot (fun g h1 h2=>I.ap g h2 h1)
  have hR2:RdAt (w1.setCell ⟨rb,6,none⟩ v1) rb (({ s with col:=s.col++x }:St).rd vN vS v1 vT .nilIface):=RowAt.set hR1 6 v1
  refine ⟨⟨hR2,owns_set hN1 (owns_rd hN1 hR1 (by decide)),owns_set hS1 (owns_rd hS1 hR1 (by decide)),owns_set h1 (owns_rd h1 hR1 (by decide)),owns_set hT1 (owns_rd hT1 hR1 (by decide)),?_,?_⟩,?_,RowAt.cell hR1 (i:=6) rfl,RowAt.frozen hR1 6⟩
  · intro g hg1 hg2
    rcases hk with e | e
    · exact I.ap g (e ▸ hg1) hg2
    · have h2:=(World.ownsRow.lt I.ot g hg2).2
      rw [e] at hg1
      cases hg1
      omega
  · have:=I.size;have:=hg.size;simp;omega
  · exact But.setCell (But.mono (But.of_grown hg) (Nat.le_refl _) (fun k hk=>.inr (.inl hk))) (p:=⟨rb,6,none⟩) (.inr (.inl rfl)) v1
section
variable (B rb:Nat) (s:St) (t:List UInt8) (vN vS vC vT:Value) (hb:Bd s) (ht:t.length≤s.sz) (w:World) (I:RI B w rb s t vN vS vC vT) (hTab:Tab w)
set_option maxHeartbeats 4000000 in
set_option maxRecDepth 100000 in
include hb ht I hTab in
theorem readFrame_any (hnx:s.nx=2) (hk1:1≤s.k) (hk2:s.k≤128) (hi:s.i≤128) (htt:s.tt≤65536):Calls Tryz.prog 133 #[.pointer (some ⟨rb,0,none⟩)] w fun q w'=>ReadOut B w rb s t vN vS vC vT (frameP s t) 0 q w':=by
  obtain ⟨bc,cc,eC,hcc⟩:=I.oc.slice
  obtain ⟨bt,ct,eT,hct⟩:=I.ot.slice
  have hz:=St.sz_le hb
  have KS:=rsealed_any rb (s.rd vN vS vC vT .nilIface) bc s.col.length cc eC (by have:=hb.m;exact Nat.le_trans this (by omega)) (by have:=hb.c;exact Nat.le_trans this (by omega)) (by have:=hb.ln;exact Nat.le_trans this (by omega)) hb.col (by rw [show (s.rd vN vS vC vT .nilIface).nx=s.nx from rfl];omega) t bt ct eT (by omega) (by have:=hb.pl;exact Nat.le_trans this (by omega)) w I.rd I.ot.lies hTab
  have hsz:sizeR s.nx s.c s.m s.ln s.col.length=s.sz:=rfl
  simp only [St.rd,hsz] at KS
  have hSP:sealT s.sz s.pl t=sealP s t:=rfl
  simp only [hSP] at KS
  unfold frameP
  cases hse:sealP s t with
  | some e=>
    unfold SealPost at KS
    rw [hse] at KS
    simp only at KS ⊢
    clear hse
    go_enter Tryz.func133,Tryz.ntmps133
    go_wp2_with (first | (go_at_call 141;refine KS.mono ?_;rintro q w2 ⟨v,rfl,g1,g2⟩;obtain ⟨ty,x,rfl⟩:=g1.iface))
    go_ret
    exact ReadOut.fault I (Nat.le_refl _) g1 g2
  | none=>
    unfold SealPost at KS
    rw [hse] at KS
    simp only at KS ⊢
    have hz2:=sz2 hnx
    have hl8:t.length=s.sz:=by
      unfold sealP at hse
      split at hse
      · cases hse
      · omega
    obtain ⟨b,off,ebt,hB⟩:∃ b off,bt=some ⟨b,off,none⟩∧Byt w b off t:=by
      have hot:=I.ot
      unfold OwnB at hot
      obtain ⟨g,c,e,_,_,_,_,hB⟩:=owns_byt hot (by omega)
      rw [eT] at e
      cases e
      exact ⟨g,0,rfl,hB⟩
    subst ebt
    obtain ⟨q,eq⟩:∃ q,t.length - 8=q:=⟨_,rfl⟩
    have hq:q+8=t.length:=by omega
    have hq2:s.col.length+q≤s.ln:=by have:=hb.col;omega
    have hu:(part t 0 q).length=q:=part_length (by omega)
    have hBu:Byt w b off (part t 0 q):=by have:=hB.part (a:=0) (n:=q) (by omega);exact this
    have hLu:Lies w (.slice (some ⟨b,off,none⟩) q ct) (u8V (part t 0 q)):=by
      refine ⟨_,ct,by rw [u8V_length,hu],by rw [u8V_length,hu];omega,fun j u hj=>⟨b,off,rfl,?_⟩⟩
      obtain ⟨h1,rfl⟩:=u8V_at hj
      exact hBu j h1
    rw [eq] at KS ⊢
    have hln:=hb.ln
    have hpl:=hb.pl
    have hF:=usedI_small s.k s.i s.tt hk1 htt
    have KU:=fun j=>used_any (s.k:Int) (s.i:Int) (s.tt:Int) s.k s.i s.tt rfl rfl rfl hk1 (by omega) (by omega) htt (w.drewN j)
    have KF:=fun j=>firstI_any (usedI s.k s.i s.tt - (s.col.length:Int)) (by omega) _ (part t 0 q) (by omega) (w.drewN j) (hLu.drewN j)
    rw [firstI_pad] at KF
    have c0:=RowAt.cell I.rd (i:=0) rfl
    have c2:=RowAt.cell I.rd (i:=2) rfl
    have c6:=RowAt.cell I.rd (i:=6) rfl
    have c9:=RowAt.cell I.rd (i:=9) rfl
    have c11:=RowAt.cell I.rd (i:=11) rfl
    have f6:=RowAt.frozen I.rd 6
    simp only [St.rd] at c0 c2 c6 c9 c11
    subst eC
    obtain ⟨us,eus⟩:∃ us,usedI s.k s.i s.tt=us:=⟨_,rfl⟩
    rw [eus] at KU KF hF ⊢
    have hwr:IntKind.i64.wrap (us - (s.col.length:Int))=us - (s.col.length:Int):=IntWalk.i64_in _ (by omega)
    clear hse hl8 eq hsz hSP eus
    cases hp:padP (part t 0 q) (us - (s.col.length:Int)) with
    | some m=>
      rw [hp] at KF
      simp only at KF ⊢
      have hm:m < q:=by have:=(padP_some_iff.1 hp).1;omega
      obtain ⟨pl,epl⟩:∃ pl,s.pl=pl:=⟨_,rfl⟩
      rw [epl] at c11 hpl ⊢
      have hwr2:IntKind.i64.wrap ((pl:Int)+(m:Int))=(pl:Int)+(m:Int):=IntWalk.i64_in _ (by omega)
      clear hp
      go_enter Tryz.func133,Tryz.ntmps133
      go_wp2_with (first | (go_at_call 141;refine KS.mono ?_;rintro q w2 ⟨rfl,j,hw2⟩;obtain rfl:=hw2.symm))
      go_big_quiet (first | (go_at_call 46;exact (KU _).mono (fun _ _ h=>⟨h.1,_,h.2⟩)))
      go_wp2_with (first | (go_at_call 45;refine (KF _).mono ?_;rintro q w2 ⟨rfl,hw2⟩;obtain rfl:=hw2.symm) | (go_at_call 77;refine (at_any _ _ 8 (pl+m) (by rfl) (by simp) _).mono ?_;rintro q w2 ⟨v,rfl,g1,g2⟩))
      go_ret
      exact ReadOut.fault I (Nat.le_refl _) g1 (below_of_drewN g2)
    | none=>
      rw [hp] at KF
      simp only at KF ⊢
      clear hp
      have hot:=I.oc
      unfold OwnB at hot
      have hBs:=I.size
      have hcl:=hb.col
      obtain ⟨i0,hi0,hz0,hz1,hz3⟩:=info_parts infoB8
      have hnews:∀ j u,(u8V (part t 0 q))[j]? = some u→w.cell? ((⟨b,off,none⟩:Addr).add j)=some u:=Byt.news hBu
      go_enter Tryz.func133,Tryz.ntmps133
      go_wp2_with (first | (go_at_call 141;refine KS.mono ?_;rintro q w2 ⟨rfl,j,hw2⟩;obtain rfl:=hw2.symm))
      go_big_quiet (first | (go_at_call 46;exact (KU _).mono (fun _ _ h=>⟨h.1,_,h.2⟩)))
      go_wp2_with (first | (go_at_call 45;refine (KF _).mono ?_;rintro q w2 ⟨rfl,hw2⟩;obtain rfl:=hw2.symm) | (at_builtin;refine wpList_append_own_at _ rfl _ _ 33 rfl B 5 i0 (.int .u8 0) 1 1 Tryz.underlying33 hi0 hz0 hz1 hz3 rfl (by decide) _ _ _ rfl (by exact hot) ⟨b,off,none⟩ q ct (u8V (part t 0 q)) rfl (by rw [u8V_length,hu];omega) (by exact hnews) (u8V_one _) (by unfold maxLen;omega) (by omega) (by exact hBs) ?_;intro v2 w2 hown2 hgrow2 _ hblk2;have ow:=own_app hown2;obtain ⟨b2,c3,rfl,hc3⟩:=ow.slice;obtain ⟨J,hJ,x6,y6⟩:=RI.column (I.drewN _) ow hgrow2 hblk2))
      go_ret
      have e2:(s.col++part t 0 q).length=s.col.length+q:=by rw [List.length_append,hu]
      rw [e2] at J hJ hblk2
      refine ⟨((But.refl w.heap.size _ w).drewN _).trans hJ,rfl,vN,vS,_,J,?_⟩
      rcases hblk2 with e | e
      · exact .inl e
      · exact .inr ⟨_,e,Nat.le_refl _⟩
end
end Go.Proofs.YtkpcmfgeanlcnabGreatDoor

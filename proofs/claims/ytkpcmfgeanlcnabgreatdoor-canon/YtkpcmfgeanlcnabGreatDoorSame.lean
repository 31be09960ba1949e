/-
  Bytes as a field, in plain numbers: multiplying as the program and as the document do it, that they agree, and that it is a field.
-/
import Derived.Test.YtkpcmfgeanlcnabGreatDoorProg
import Derived.WalkKit
import Derived.WalkSpells
import Derived.WalkLawsBesides
import Derived.Deep.OwnRows
namespace Go.Proofs.YtkpcmfgeanlcnabGreatDoor
def tx (a:Nat):Nat:=if 128≤a then (2*a % 256) ^^^ 29 else 2*a
def mulN:Nat→Nat→Nat→Nat→Nat
  | 0,p,_,_=>p
  | n+1,p,a,b=>mulN n (if b % 2=1 then p ^^^ a else p) (tx a) (b / 2)
def mul (a b:Nat):Nat:=mulN 8 0 a b
theorem tx_eq:∀ a:Fin 256,tx a.val=(2*a.val) ^^^ (285*(a.val / 128)):=by decide +kernel
theorem tx_lt256:∀ a:Fin 256,tx a.val < 256:=by decide +kernel
theorem tx_lt {a:Nat} (h:a < 256):tx a < 256:=tx_lt256 ⟨a,h⟩
theorem xor_lt {a b:Nat} (ha:a < 256) (hb:b < 256):a ^^^ b < 256:=Nat.xor_lt_two_pow (n:=8) ha hb
theorem tx_xor {a b:Nat} (ha:a < 256) (hb:b < 256):tx (a ^^^ b)=tx a ^^^ tx b:=by
  have h1:=tx_eq ⟨a ^^^ b,xor_lt ha hb⟩
  have h2:=tx_eq ⟨a,ha⟩
  have h3:=tx_eq ⟨b,hb⟩
  simp only at h1 h2 h3
  rw [h1,h2,h3]
  have e1:2*(a ^^^ b)=(2*a) ^^^ (2*b):=by
    have:=Nat.shiftLeft_xor_distrib (a:=a) (b:=b) (i:=1)
    simpa [Nat.shiftLeft_eq,Nat.mul_comm] using this
  have e2:(a ^^^ b) / 128=(a / 128) ^^^ (b / 128):=by
    have:=Nat.shiftRight_xor_distrib (a:=a) (b:=b) (i:=7)
    simpa [Nat.shiftRight_eq_div_pow] using this
  have e3:∀ p q:Nat,p < 2→q < 2→285*(p ^^^ q)=(285*p) ^^^ (285*q):=by
    intro p q hp hq
    have:p=0∨p=1:=by omega
    have:q=0∨q=1:=by omega
    rcases ‹p=0∨p=1› with rfl | rfl <;> rcases ‹q=0∨q=1› with rfl | rfl <;> rfl
  rw [e1,e2,e3 _ _ (by omega) (by omega)]
  rw [Nat.xor_assoc,Nat.xor_assoc]
  congr 1
  rw [← Nat.xor_assoc,Nat.xor_comm (2*b),Nat.xor_assoc]
theorem xor4 (a b c d:Nat):(a ^^^ b) ^^^ (c ^^^ d)=(a ^^^ c) ^^^ (b ^^^ d):=by
  rw [Nat.xor_assoc,Nat.xor_assoc];congr 1
  rw [← Nat.xor_assoc,Nat.xor_comm b,Nat.xor_assoc]
theorem mulN_lt:∀ (n p a b:Nat),p < 256→a < 256→mulN n p a b < 256
  | 0,_,_,_,hp,_=>hp
  | n+1,p,a,b,hp,ha=>by
    rw [mulN]
    refine mulN_lt n _ _ _ ?_ (tx_lt ha)
    split
    · exact xor_lt hp ha
    · exact hp
theorem mul_lt {a b:Nat} (ha:a < 256):mul a b < 256:=mulN_lt 8 0 a b (by omega) ha
theorem mulN_xor_left:∀ (n p q a c b:Nat),a < 256→c < 256→mulN n (p ^^^ q) (a ^^^ c) b=mulN n p a b ^^^ mulN n q c b
  | 0,_,_,_,_,_,_,_=>rfl
  | n+1,p,q,a,c,b,ha,hc=>by
    rw [mulN,mulN,mulN,tx_xor ha hc]
    split
    · rw [xor4,mulN_xor_left n _ _ _ _ _ (tx_lt ha) (tx_lt hc)]
    · rw [mulN_xor_left n _ _ _ _ _ (tx_lt ha) (tx_lt hc)]
theorem mul_xor_left {a c:Nat} (b:Nat) (ha:a < 256) (hc:c < 256):mul (a ^^^ c) b=mul a b ^^^ mul c b:=by
  have:=mulN_xor_left 8 0 0 a c b ha hc
  simpa [mul] using this
theorem xor_mod2 (b d:Nat):(b ^^^ d) % 2=if b % 2=d % 2 then 0 else 1:=by
  have h:(b ^^^ d) % 2 ^ 1=(b % 2 ^ 1) ^^^ (d % 2 ^ 1):=Nat.xor_mod_two_pow
  rw [Nat.pow_one] at h
  rw [h]
  have h1:b % 2=0∨b % 2=1:=by omega
  have h2:d % 2=0∨d % 2=1:=by omega
  rcases h1 with h1 | h1 <;> rcases h2 with h2 | h2 <;> rw [h1,h2] <;> rfl
theorem xor_div2 (b d:Nat):(b ^^^ d) / 2=(b / 2) ^^^ (d / 2):=by
  have:=Nat.shiftRight_xor_distrib (a:=b) (b:=d) (i:=1)
  simpa [Nat.shiftRight_eq_div_pow] using this
theorem mulN_xor_right:∀ (n p q a b d:Nat),a < 256→mulN n (p ^^^ q) a (b ^^^ d)=mulN n p a b ^^^ mulN n q a d
  | 0,_,_,_,_,_,_=>rfl
  | n+1,p,q,a,b,d,ha=>by
    rw [mulN,mulN,mulN,xor_div2,xor_mod2]
    rw [← mulN_xor_right n _ _ _ _ _ (tx_lt ha)]
    congr 1
    have h1:b % 2=0∨b % 2=1:=by omega
    have h2:d % 2=0∨d % 2=1:=by omega
    rcases h1 with h1 | h1 <;> rcases h2 with h2 | h2 <;> simp [h1,h2]
    · rw [Nat.xor_assoc]
    · rw [Nat.xor_assoc,Nat.xor_assoc,Nat.xor_comm a]
    · rw [xor4,Nat.xor_self,Nat.xor_zero]
theorem mul_xor_right {a:Nat} (b d:Nat) (ha:a < 256):mul a (b ^^^ d)=mul a b ^^^ mul a d:=by
  have:=mulN_xor_right 8 0 0 a b d ha
  simpa [mul] using this
def Lin (f:Nat→Nat):Prop:=∀ a b,a < 256→b < 256→f (a ^^^ b)=f a ^^^ f b
theorem bits8:∀ a:Fin 256,a.val=(((((((a.val / 128 % 2*128) ^^^ (a.val / 64 % 2*64)) ^^^ (a.val / 32 % 2*32)) ^^^ (a.val / 16 % 2*16)) ^^^ (a.val / 8 % 2*8)) ^^^ (a.val / 4 % 2*4)) ^^^ (a.val / 2 % 2*2)) ^^^ (a.val % 2*1):=by
  decide +kernel
theorem Lin.zero {f:Nat→Nat} (h:Lin f):f 0=0:=by
  have:=h 0 0 (by omega) (by omega)
  rw [Nat.xor_self,Nat.xor_self] at this
  exact this
theorem lin_bit {f g:Nat→Nat} (hf:Lin f) (hg:Lin g) (x m:Nat) (hx:x < 2) (h:f m=g m):f (x*m)=g (x*m):=by
  have:x=0∨x=1:=by omega
  rcases this with rfl | rfl
  · rw [Nat.zero_mul,hf.zero,hg.zero]
  · rw [Nat.one_mul,h]
theorem Lin.ext {f g:Nat→Nat} (hf:Lin f) (hg:Lin g) (h:∀ i:Fin 8,f (2 ^ i.val)=g (2 ^ i.val)) (a:Nat) (ha:a < 256):f a=g a:=by
  have e:=bits8 ⟨a,ha⟩
  simp only at e
  have x7:a / 128 % 2*128 < 256:=by omega
  have x6:a / 64 % 2*64 < 256:=by omega
  have x5:a / 32 % 2*32 < 256:=by omega
  have x4:a / 16 % 2*16 < 256:=by omega
  have x3:a / 8 % 2*8 < 256:=by omega
  have x2:a / 4 % 2*4 < 256:=by omega
  have x1:a / 2 % 2*2 < 256:=by omega
  have x0:a % 2*1 < 256:=by omega
  have y6:=xor_lt x7 x6
  have y5:=xor_lt y6 x5
  have y4:=xor_lt y5 x4
  have y3:=xor_lt y4 x3
  have y2:=xor_lt y3 x2
  have y1:=xor_lt y2 x1
  rw [e,hf _ _ y1 x0,hg _ _ y1 x0,hf _ _ y2 x1,hg _ _ y2 x1,hf _ _ y3 x2,hg _ _ y3 x2,hf _ _ y4 x3,hg _ _ y4 x3,
    hf _ _ y5 x4,hg _ _ y5 x4,hf _ _ y6 x5,hg _ _ y6 x5,hf _ _ x7 x6,hg _ _ x7 x6,
    lin_bit hf hg _ 128 (by omega) (h 7),lin_bit hf hg _ 64 (by omega) (h 6),lin_bit hf hg _ 32 (by omega) (h 5),lin_bit hf hg _ 16 (by omega) (h 4),
    lin_bit hf hg _ 8 (by omega) (h 3),lin_bit hf hg _ 4 (by omega) (h 2),lin_bit hf hg _ 2 (by omega) (h 1),lin_bit hf hg _ 1 (by omega) (h 0)]
theorem lin_mul_left (b:Nat):Lin (fun a=>mul a b):=fun _ _ ha hc=>mul_xor_left b ha hc
theorem lin_mul_right {a:Nat} (ha:a < 256):Lin (fun b=>mul a b):=fun _ _ _ _=>mul_xor_right _ _ ha
theorem mul_one {a:Nat} (ha:a < 256):mul a 1=a:=
  Lin.ext (f:=fun a=>mul a 1) (g:=fun a=>a) (lin_mul_left 1) (fun _ _ _ _=>rfl) (by decide +kernel) a ha
theorem mul_zero (a:Nat):mul a 0=0:=by
  simp [mul,mulN]
theorem zero_mul {a:Nat}:mul 0 a=0:=(lin_mul_left a).zero
theorem pow_lt (i:Fin 8):2 ^ i.val < 256:=by
  revert i;decide
theorem comm88:∀ i j:Fin 8,mul (2 ^ i.val) (2 ^ j.val)=mul (2 ^ j.val) (2 ^ i.val):=by decide +kernel
theorem mul_comm {a b:Nat} (ha:a < 256) (hb:b < 256):mul a b=mul b a:=by
  refine Lin.ext (f:=fun a=>mul a b) (g:=fun a=>mul b a) (lin_mul_left b) (lin_mul_right hb) (fun i => ?_) a ha
  exact Lin.ext (f:=fun b=>mul (2 ^ i.val) b) (g:=fun b=>mul b (2 ^ i.val)) (lin_mul_right (pow_lt i)) (lin_mul_left _) (fun j=>comm88 i j) b hb
theorem assoc888:∀ i j k:Fin 8,mul (2 ^ i.val) (mul (2 ^ j.val) (2 ^ k.val))=mul (mul (2 ^ i.val) (2 ^ j.val)) (2 ^ k.val):=by decide +kernel
theorem mul_assoc {a b c:Nat} (ha:a < 256) (hb:b < 256) (hc:c < 256):mul a (mul b c)=mul (mul a b) c:=by
  refine Lin.ext (f:=fun a=>mul a (mul b c)) (g:=fun a=>mul (mul a b) c) (lin_mul_left _) ?_ (fun i => ?_) a ha
  · intro x y hx hy;show mul (mul (x ^^^ y) b) c=_;rw [mul_xor_left b hx hy,mul_xor_left c (mul_lt hx) (mul_lt hy)]
  refine Lin.ext (f:=fun b=>mul (2 ^ i.val) (mul b c)) (g:=fun b=>mul (mul (2 ^ i.val) b) c) ?_ ?_ (fun j => ?_) b hb
  · intro x y hx hy;show mul _ (mul (x ^^^ y) c)=_;rw [mul_xor_left c hx hy,mul_xor_right _ _ (pow_lt i)]
  · intro x y hx hy;show mul (mul _ (x ^^^ y)) c=_;rw [mul_xor_right _ _ (pow_lt i),mul_xor_left c (mul_lt (pow_lt i)) (mul_lt (pow_lt i))]
  refine Lin.ext (f:=fun c=>mul (2 ^ i.val) (mul (2 ^ j.val) c)) (g:=fun c=>mul (mul (2 ^ i.val) (2 ^ j.val)) c) ?_ ?_ (fun k=>assoc888 i j k) c hc
  · intro x y hx hy;show mul _ (mul _ (x ^^^ y))=_;rw [mul_xor_right _ _ (pow_lt j),mul_xor_right _ _ (pow_lt i)]
  · intro x y hx hy;show mul (mul _ _) (x ^^^ y)=_;rw [mul_xor_right _ _ (mul_lt (pow_lt i))]
def invN:Nat→Nat→Nat→Nat
  | 0,_,v=>v
  | n+1,p,v=>invN n (mul p p) (mul v (mul p p))
def inv (a:Nat):Nat:=invN 7 a 1
theorem inv_lt256:∀ a:Fin 256,inv a.val < 256:=by decide +kernel
theorem inv_lt {a:Nat} (ha:a < 256):inv a < 256:=inv_lt256 ⟨a,ha⟩
theorem mul_inv256:∀ a:Fin 256,a.val=0∨mul a.val (inv a.val)=1:=by decide +kernel
theorem mul_inv {a:Nat} (ha:a < 256) (h0:a≠0):mul a (inv a)=1:=(mul_inv256 ⟨a,ha⟩).resolve_left h0
end Go.Proofs.YtkpcmfgeanlcnabGreatDoor
namespace Go.Proofs.YtkpcmfgeanlcnabGreatDoor
open Go.RowKit
theorem tx_hi {a:Nat} (h:128≤a):bits .xor .u8 ((a:Int)*2 % 256) 29=((tx a:Nat):Int):=by
  have e:((a:Int)*2 % 256)=((a*2 % 256:Nat):Int):=by omega
  rw [e,show (29:Int)=((29:Nat):Int) from rfl,u8_xor_nat _ _ (by omega) (by omega),tx,if_pos h,Nat.mul_comm]
theorem tx_lo {a:Nat} (h:¬ 128≤a):(a:Int)*2=((tx a:Nat):Int):=by
  rw [tx,if_neg h];omega
theorem u8_and1 (y:Nat) (hy:y < 256):bits .and .u8 (y:Int) 1=((y % 2:Nat):Int):=by
  rw [show (1:Int)=((1:Nat):Int) from rfl,u8_and_nat _ _ hy (by omega),Nat.and_one_is_mod]
theorem u8_xor_b {x y:Nat} (hx:x < 256) (hy:y < 256):bits .xor .u8 (x:Int) (y:Int)=((x ^^^ y:Nat):Int):=u8_xor_nat _ _ hx hy
theorem mulN_step {k p x y m:Nat} (hk:k < 8) (H:mulN (8 - k) p x y=m) :
    mulN (8 - (k+1)) (if y % 2=1 then p ^^^ x else p) (tx x) (y / 2)=m:=by
  obtain ⟨n,hn⟩:∃ n,8 - k=n+1:=⟨8 - k - 1,by omega⟩
  have e:8 - (k+1)=n:=by omega
  rw [e];rw [hn,mulN] at H;exact H
theorem invN_step {k p v m:Nat} (hk:k < 7) (H:invN (7 - k) p v=m):invN (7 - (k+1)) (mul p p) (mul v (mul p p))=m:=by
  obtain ⟨n,hn⟩:∃ n,7 - k=n+1:=⟨7 - k - 1,by omega⟩
  have e:7 - (k+1)=n:=by omega
  rw [e];rw [hn,invN] at H;exact H
theorem ofInt_i64 (a:Nat) (ha:a < 9223372036854775808):(BitVec.ofInt 64 (a:Int)).toNat=a:=by
  rw [BitVec.ofInt_natCast,BitVec.toNat_ofNat];exact Nat.mod_eq_of_lt (by omega)
theorem i64_xor_nat (a b:Nat) (ha:a < 9223372036854775808) (hb:b < 9223372036854775808):bits .xor .i64 (a:Int) (b:Int)=((a ^^^ b:Nat):Int):=by
  have hx:a ^^^ b < 2 ^ 63:=Nat.xor_lt_two_pow (by omega) (by omega)
  show IntKind.i64.wrap ((BitVec.ofInt 64 (a:Int) ^^^ BitVec.ofInt 64 (b:Int)).toNat:Int)=_
  rw [BitVec.toNat_xor,ofInt_i64 a ha,ofInt_i64 b hb,IntKind.wrap_i64]
  omega
end Go.Proofs.YtkpcmfgeanlcnabGreatDoor
namespace Go.Proofs.YtkpcmfgeanlcnabGreatDoor
open Go.RowKit Go.Deep
theorem Tryz.infoB:(Tryz.prog.info? 5).map (fun i=>(i.zero,i.size,i.bytes))=some (some (.int .u8 0),1,1):=by kernel_rfl
theorem Tryz.infoR:(Tryz.prog.info? 33).map (fun i=>(i.zero,i.size,i.bytes))=some (some (.slice none 0 0),1,24):=by kernel_rfl
def rowV (k i j:Nat):Nat:=if i < k then (if j=i then 1 else 0) else inv ((i ^^^ j) % 256)
structure NewRow (w w':World) (n:Nat) (f:Nat→Nat):Prop where
  row:w'.rowIs w.heap.size 5 n (fun j=>.int .u8 (f j:Nat))
  size:w'.heap.size=w.heap.size+1
  below:Below w.heap.size w w'
theorem make_bytes (n:Nat) (hn:n≤128) (w:World):(Instr.makeSlice 33 (.int .i64 (n:Int)) (.int .i64 (n:Int))).run Tryz.prog w = .ok (.slice (some ⟨w.heap.size,0,none⟩) n n) (w.alloc (.cells (madeCells #[.int .u8 0] n) 5)):=
  run_make_row' (P:=Tryz.prog) 33 5 (.int .u8 0) 1 Tryz.underlying33 Tryz.infoB rfl .i64 .i64 n (by omega) (by omega) w
theorem xor_lt128 {a b:Nat} (ha:a < 128) (hb:b < 128):a ^^^ b < 128:=Nat.xor_lt_two_pow (n:=7) ha hb
theorem rowV_lt {k i j:Nat}:rowV k i j < 256:=by
  unfold rowV
  split
  · split <;> omega
  · exact inv_lt (Nat.mod_lt _ (by omega))
theorem make_lists (n:Nat) (hn:n≤128) (w:World):(Instr.makeSlice 28 (.int .i64 (n:Int)) (.int .i64 (n:Int))).run Tryz.prog w = .ok (.slice (some ⟨w.heap.size,0,none⟩) n n) (w.alloc (.cells (madeCells #[.slice none 0 0] n) 33)):=
  run_make_row' (P:=Tryz.prog) 28 33 (.slice none 0 0) 24 Tryz.underlying28 Tryz.infoR rfl .i64 .i64 n (by omega) (by omega) w
def headV (B k c i:Nat):Value:=if i < c then .slice (some ⟨B+1+i,0,none⟩) k k else .slice none 0 0
structure NewRows (w w':World) (n k c:Nat) (f:Nat→Nat→Nat):Prop where
  head:w'.rowIs w.heap.size 33 n (headV w.heap.size k c)
  rows:∀ i,i < c→w'.rowIs (w.heap.size+1+i) 5 k (fun j=>.int .u8 (f i j:Nat))
  size:w'.heap.size=w.heap.size+1+c
  below:Below w.heap.size w w'
def Holds8 (w:World) (v:Value) (l:List UInt8):Prop:=
  (v = .slice none 0 0∧l=[])∨∃ a cap,v = .slice (some a) l.length cap∧∀ j (hj:j < l.length),w.cell? (a.add j)=some (.int .u8 (l[j].toNat:Int))
theorem Holds8.string {w:World} {v:Value} {l:List UInt8} (h:Holds8 w v l):(convert 33 9 v).run Tryz.prog w = .ok (.string ⟨l.toArray⟩) w:=by
  rcases h with ⟨rfl,rfl⟩ | ⟨a,cap,rfl,hc⟩
  · rw [run_convert_bytes_string w 33 9 5 none 0 0 Tryz.underlying33 Tryz.underlying5 Tryz.underlying9]
    rfl
  · exact run_convert_bytes_back w 33 9 5 a cap l Tryz.underlying33 Tryz.underlying5 Tryz.underlying9 hc
theorem one_u8 (x:Int):∀ u∈[Value.int .u8 x],u.oneCell' = true:=by intro u hu;simp at hu;subst hu;rfl
end Go.Proofs.YtkpcmfgeanlcnabGreatDoor

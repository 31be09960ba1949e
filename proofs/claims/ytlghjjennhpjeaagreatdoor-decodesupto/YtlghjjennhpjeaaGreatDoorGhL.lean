import Derived.Test.YtlghjjennhpjeaaGreatDoorGhD
import Derived.Test.YtlghjjennhpjeaaGreatDoorGhE
set_option maxHeartbeats 1600000
namespace Go.Gh
open Go.Conc Go.ConcN
open Go.ConcR (KK WgAt stA smA rd wr mk Payload DC0 again_blocked)
variable [Payload][qR]
def NoF(_:Nat)(_:Loc):Prop:=False
section
variable (P:aP)(ty:aG)(Wg C n B:Nat)(M:Nat->Prop)(WP:Nat->ai->ah->Prop)(K:aC->aI->ah->Prop)
def ao3(idx:Nat)(g:aI)(w:ah):Prop:=
 g.status=.running/\∃v,WP idx v w/\Has C idx v w/\∀W,WgLive ty Wg W->Has C idx v W->Goes P false (RW ty Wg C n 0 (idx+1-1)) (DWs Wg NoF NoF C n (idx+1)) (AtR0 P ty Wg C n 0 (idx+1) v) 23 g W
def Wk(idx m:Nat)(g:aI)(w:ah):Prop:=Goes P false (Ro Wg C n B (· =idx)) (Dg Wg C n B (· =idx)) (ao3 P ty Wg C n WP idx) m g w
def alu(ids:aC)(g:aI)(w:ah):Prop:=g.status=.running/\∃gT,anu P ty Wg gT g/\K ids gT w
def AtGo(Next:aC->aI->ah->Prop)(ids:aC)(g:aI)(w:ah):Prop:=
 g.status=.running/\∃g' child idx l,stepG P true g w=.spawn g' child w #[]/\child.status=.running/\idx∉ids/\M idx/\(∀b∈l,qQ w b)/\
  (∃m,Wk P ty Wg C n B WP idx m child (w.out (book w.heap.size l)))/\∀l',(∀b,b∈l'↔qQ w b/\b∉l)->Next (idx::ids) g' (w.out (book w.heap.size l'))
def aeN(Next:aC->aI->ah->Prop)(ids:aC)(g:aI)(w:ah):Prop:=
 g.status=.running/\∃gT mm,aqM P ty Wg gT g/\(Goes P true (Ro Wg C n B (λi=>¬M i)) (Dg Wg C n B (λi=>¬M i))) (AtGo P ty Wg C n B M WP Next ids) mm gT w
def Sp:Nat->aC->aI->ah->Prop
 |0,ids,g,w=>∃m,(Goes P true (Ro Wg C n B (λi=>¬M i)) (Dg Wg C n B (λi=>¬M i))) (alu P ty Wg K ids) m g w
 |r+1,ids,g,w=>∃m,(Goes P true (Ro Wg C n B (λi=>¬M i)) (Dg Wg C n B (λi=>¬M i))) (aeN P ty Wg C n B M WP (Sp r) ids) m g w
inductive WS (idx:Nat) (l:aC):Nat->Nat->Nat->aI->ah->Prop
 |comp {m:Nat} {g:aI} {W:ah}:Wk P ty Wg C n B WP idx m g (gw W l)->WS idx l 7 (m+24) 0 g W
 |lib {v:ai} {s m d:Nat} {g:aI} {W:ah}:WSit P ty Wg C n NoF NoF 0 (idx+1) v s m d g W->(s=7->m<=23)->WP idx v (gw W l)->(s<=6->Has C idx v W)->WS idx l s m d g W
inductive MS (ids:aC) (l:aC):CTag->Nat->Nat->Nat->aI->ah->Prop
 |c1 {r m:Nat} {g:aI} {W:ah}:(Goes P true (Ro Wg C n B (λi=>¬M i)) (Dg Wg C n B (λi=>¬M i))) (aeN P ty Wg C n B M WP (Sp P ty Wg C n B M WP K r) ids) m g (gw W l)->MS ids l (.sp (r+1) 7) (r+1) m 0 g W
 |kd1 {r m mm:Nat} {g gT:aI} {W:ah}:(Goes P true (RL ty Wg) DC0) (AKd P ty Wg gT) m g W->(Goes P true (Ro Wg C n B (λi=>¬M i)) (Dg Wg C n B (λi=>¬M i))) ((AtGo P ty Wg C n B M WP) (Sp P ty Wg C n B M WP K r) ids) mm gT (gw W l)->MS ids l (.sp (r+1) 6) (r+1) m 0 g W
 |a1 {r m mm:Nat} {g gT:aI} {W:ah}:(Goes P true (RL ty Wg) DC0) (AA1 P ty Wg gT) m g W->(Goes P true (Ro Wg C n B (λi=>¬M i)) (Dg Wg C n B (λi=>¬M i))) ((AtGo P ty Wg C n B M WP) (Sp P ty Wg C n B M WP K r) ids) mm gT (gw W l)->MS ids l (.sp (r+1) 5) (r+1) m 1 g W
 |rd1 {r m mm:Nat} {g gT:aI} {W:ah}:(Goes P true (RL ty Wg) DC0) (ARd P ty Wg gT) m g W->(Goes P true (Ro Wg C n B (λi=>¬M i)) (Dg Wg C n B (λi=>¬M i))) ((AtGo P ty Wg C n B M WP) (Sp P ty Wg C n B M WP K r) ids) mm gT (gw W l)->MS ids l (.sp (r+1) 3) (r+1) m 1 g W
 |ke1 {r m mm:Nat} {g gT:aI} {W:ah}:(Goes P true (RL ty Wg) DC0) (AKe P ty Wg gT) m g W->(Goes P true (Ro Wg C n B (λi=>¬M i)) (Dg Wg C n B (λi=>¬M i))) ((AtGo P ty Wg C n B M WP) (Sp P ty Wg C n B M WP K r) ids) mm gT (gw W l)->MS ids l (.sp (r+1) 2) (r+1) m 1 g W
 |en1 {r m mm:Nat} {g gT:aI} {W:ah}:(Goes P true (RL ty Wg) DC0) (aje gT) m g W->(Goes P true (Ro Wg C n B (λi=>¬M i)) (Dg Wg C n B (λi=>¬M i))) ((AtGo P ty Wg C n B M WP) (Sp P ty Wg C n B M WP K r) ids) mm gT (gw W l)->MS ids l (.sp (r+1) 1) (r+1) (m+mm+1) 0 g W
 |c2 {r m:Nat} {g:aI} {W:ah}:(Goes P true (Ro Wg C n B (λi=>¬M i)) (Dg Wg C n B (λi=>¬M i))) ((AtGo P ty Wg C n B M WP) (Sp P ty Wg C n B M WP K r) ids) m g (gw W l)->MS ids l (.sp (r+1) 1) (r+1) m 0 g W
 |c0 {m:Nat} {g:aI} {W:ah}:(Goes P true (Ro Wg C n B (λi=>¬M i)) (Dg Wg C n B (λi=>¬M i))) (alu P ty Wg K ids) m g (gw W l)->MS ids l (.sp 0 7) 0 m 0 g W
 |kd {m:Nat} {g gT:aI} {An:aI->ah->Prop} {W:ah}:(∀g w,An g w->g.status=.running)->(∀g w,An g w->∃m,(Goes P true (RL ty Wg) DC0) (WW1 P ty Wg gT An) m g w)->(Goes P true (RL ty Wg) DC0) (WKd P ty Wg An) m g W->K ids gT (gw W l)->MS ids l .kd 0 m 0 g W
 |anch {m:Nat} {g gT:aI} {An:aI->ah->Prop} {W:ah}:(∀g w,An g w->g.status=.running)->(∀g w,An g w->∃m,(Goes P true (RL ty Wg) DC0) (WW1 P ty Wg gT An) m g w)->(Goes P true (RL ty Wg) DC0) An m g W->K ids gT (gw W l)->MS ids l .anch 0 m 1 g W
 |w1 {m:Nat} {g gT:aI} {An:aI->ah->Prop} {W:ah}:(∀g w,An g w->g.status=.running)->(∀g w,An g w->∃m,(Goes P true (RL ty Wg) DC0) (WW1 P ty Wg gT An) m g w)->(Goes P true (RL ty Wg) DC0) (WW1 P ty Wg gT An) m g W->K ids gT (gw W l)->MS ids l .w1 0 m 1 g W
 |w2 {vs m:Nat} {g gT:aI} {An:aI->ah->Prop} {W:ah}:(∀g w,An g w->g.status=.running)->(∀g w,An g w->∃m,(Goes P true (RL ty Wg) DC0) (WW1 P ty Wg gT An) m g w)->(Goes P true (RL ty Wg) DC0) (WW2 P ty Wg gT An vs) m g W->K ids gT (gw W l)->MS ids l (.w2 vs) 0 m 1 g W
 |wr {m:Nat} {g gT:aI} {W:ah}:(Goes P true (RL ty Wg) DC0) (WWr P ty Wg gT) m g W->K ids gT (gw W l)->MS ids l .w3 0 (m+62) 1 g W
 |w3 {m:Nat} {g gT:aI} {W:ah}:(Goes P true (RL ty Wg) DC0) (WW3 P ty Wg gT) m g W->K ids gT (gw W l)->MS ids l .w3 0 (m+1) 1 g W
 |blk {g gT:aI} {W:ah}:(∀W₁,RL ty Wg W W₁->WW3 P ty Wg gT g W₁)->K ids gT (gw W l)->MS ids l .blk 0 0 1 {g with status:=.blocked} W
 |w4 {m:Nat} {g gT:aI} {W:ah}:(Goes P true (RL ty Wg) DC0) (WW4 P ty Wg gT) m g W->K ids gT (gw W l)->MS ids l .w4 0 m 1 g W
 |ke {m:Nat} {g gT:aI} {W:ah}:(Goes P true (RL ty Wg) DC0) (WKe P ty Wg gT) m g W->K ids gT (gw W l)->MS ids l .ke 0 m 1 g W
 |acq {m:Nat} {g gT:aI} {W:ah}:(Goes P true (RL ty Wg) DC0) (aqN P ty Wg gT) m g W->K ids gT (gw W l)->MS ids l .acq 0 m 0 g W
 |ret {m:Nat} {g gT:aI} {W:ah}:(Goes P true (RL ty Wg) DC0) (aje gT) m g W->K ids gT (gw W l)->MS ids l .ret 0 m 0 g W
end
omit [Payload][qR]in
theorem BO(ty:aG)(Wg:Nat)(w:ah):RL ty Wg w w:=id
omit [Payload][qR]in
theorem ajB(ty:aG)(Wg:Nat):∀a b c,RL ty Wg a b->RL ty Wg b c->RL ty Wg a c:=λ_ _ _ h h'=>h'∘h
section
variable {P:aP}{ty:aG}{Wg C n B:Nat}{M:Nat->Prop}{WP:Nat->ai->ah->Prop}{K:aC->aI->ah->Prop}
 {lo l ids:aC} {Cm:Nat->Prop} {W W':ah} {idx s m d r f:Nat} {g:aI} {tag:CTag}
theorem WS.rely(hWP:∀v w w₁,Ro Wg C n B (λ_=>False) w w₁->WP idx v w->WP idx v w₁)(h:WS P ty Wg C n B WP idx l s m d g W)(hc:Qk ty Wg C n lo Cm W W')(hB:B<=W.heap.size)(hlo:∀b∈lo,B<=b)
  (hl:∀b∈l,b∉lo/\b<W.heap.size/\b≠C/\b≠Wg) (hCm:¬Cm idx):WS P ty Wg C n B WP idx l s m d g W':=by
 have I9:Ro Wg C n B (· =idx) (gw W l) (gw W' l):=hc.ro hB hlo hl (λi hi=>by subst hi;exact hCm);cases h with
 |comp h=>
  have tr:∀a b c,Ro Wg C n B (· =idx) a b->Ro Wg C n B (· =idx) b c->Ro Wg C n B (· =idx) a c:=λ_ _ _ a b=>Ro.trans a b
  exact .comp (dF tr h I9)
 |lib h1 h2 h3 h4=>exact .lib (h1.rely ⟨λb hb=>ag,hc.live,hc.pay,by simpa using hc.cells idx hCm⟩) h2 (hWP _ _ _ (hc.ro hB hlo hl (λ_=>False.elim)) h3) (λh=>(hc.cells idx hCm).trans (h4 h))
theorem WS.status(h:WS P ty Wg C n B WP idx l s m d g W):g.status=.running\/g.status=.finished:=by
 cases h with
 |comp h=>
  refine .inl (Goes.running (λ_ _ x=>x.1) (gw W l) ⟨ay _,rfl,rfl,?_,λb=>?_,λ_ _ _ _=>rfl,λ_ _=>rfl,λ_ _=>rfl,id⟩ h)
  .unfold gw;rw[xE];rfl
  .rw[yU];unfold gw;rw[vM]
 |lib h1 _ _ _=>exact h1.status
theorem WS.woken(h:WS P ty Wg C n B WP idx l s m d g W)(a a':aI)(w':ah):woken P a a' w' g=g:=by
 unfold Go.Conc.woken;split
 .exact again_running _ h.status
 .rfl
theorem WS.quits(h:WS P ty Wg C n B WP idx l 1 m d g W):QuitsD P m d g:=by
 cases h with
 |lib h1 _ _ _=>exact h1.quits rfl
omit [qR]in
theorem Il(W:ah)(l:aC)(Cl:Nat->Prop):Ro Wg C n B Cl (gw W l) (gw W l):=by
 refine⟨ay _,rfl,rfl,?_,λb=>?_,λ_ _ _ _=>rfl,λ_ _=>rfl,λ_ _=>rfl,id⟩
 .unfold gw;rw[xE];rfl
 .rw[yU];unfold gw;rw[vM]
theorem MS.rely(hK:∀ids g w w₁,Ro Wg C n B (λi=>¬M i) w w₁->K ids g w->K ids g w₁)(h:MS P ty Wg C n B M WP K ids l tag r f d g W)(hc:Qk ty Wg C n lo Cm W W')(hB:B<=W.heap.size)(hlo:∀b∈lo,B<=b)
  (hl:∀b∈l,b∉lo/\b<W.heap.size/\b≠C/\b≠Wg) (hCm:∀i,Cm i->M i):MS P ty Wg C n B M WP K ids l tag r f d g W':=by
 have I9:Ro Wg C n B (λi=>¬M i) (gw W l) (gw W' l):=hc.ro hB hlo hl (λi hi hm=>hi (hCm i hm));have tr:∀a b c,Ro Wg C n B (λi=>¬M i) a b->Ro Wg C n B (λi=>¬M i) b c->Ro Wg C n B (λi=>¬M i) a c:=λ_ _ _ a b=>Ro.trans a b
 have Yz:RL ty Wg W W':=hc.live;have tl:=ajB ty Wg;cases h with
 |c1 h=>exact .c1 (dF tr h I9)
 |kd1 h h'=>exact .kd1 (dF tl h Yz) (dF tr h' I9)
 |a1 h h'=>exact .a1 (dF tl h Yz) (dF tr h' I9)
 |rd1 h h'=>exact .rd1 (dF tl h Yz) (dF tr h' I9)
 |ke1 h h'=>exact .ke1 (dF tl h Yz) (dF tr h' I9)
 |en1 h h'=>exact .en1 (dF tl h Yz) (dF tr h' I9)
 |c2 h=>exact .c2 (dF tr h I9)
 |c0 h=>exact .c0 (dF tr h I9)
 |kd a b h k=>exact .kd a b (dF tl h Yz) (hK _ _ _ _ I9 k)
 |anch a b h k=>exact .anch a b (dF tl h Yz) (hK _ _ _ _ I9 k)
 |w1 a b h k=>exact .w1 a b (dF tl h Yz) (hK _ _ _ _ I9 k)
 |w2 a b h k=>exact .w2 a b (dF tl h Yz) (hK _ _ _ _ I9 k)
 |wr h k=>exact .wr (dF tl h Yz) (hK _ _ _ _ I9 k)
 |w3 h k=>exact .w3 (dF tl h Yz) (hK _ _ _ _ I9 k)
 |blk h k=>exact .blk (λW₂ h₂=>h W₂ (h₂∘Yz)) (hK _ _ _ _ I9 k)
 |w4 h k=>exact .w4 (dF tl h Yz) (hK _ _ _ _ I9 k)
 |ke h k=>exact .ke (dF tl h Yz) (hK _ _ _ _ I9 k)
 |acq h k=>exact .acq (dF tl h Yz) (hK _ _ _ _ I9 k)
 |ret h k=>exact .ret (dF tl h Yz) (hK _ _ _ _ I9 k)
theorem MS.status(h:MS P ty Wg C n B M WP K ids l tag r f d g W):(g.status=.running/\tag≠.blk)\/(g.status=.blocked/\tag=.blk):=by
 have r0:=Il (Wg:=Wg) (C:=C) (n:=n) (B:=B) W l (λi=>¬M i);have rl:=BO ty Wg W;cases h with
 |c1 h=>exact .inl ⟨Goes.running (λ_ _ x=>x.1) _ r0 h,aA⟩
 |kd1 h _=>exact .inl ⟨Goes.running (λ_ _ x=>x.1) _ rl h,aA⟩
 |a1 h _=>exact .inl ⟨Goes.running (λ_ _ x=>x.1) _ rl h,aA⟩
 |rd1 h _=>exact .inl ⟨Goes.running (λ_ _ x=>x.1) _ rl h,aA⟩
 |ke1 h _=>exact .inl ⟨Goes.running (λ_ _ x=>x.1) _ rl h,aA⟩
 |en1 h _=>exact .inl ⟨Goes.running (λ_ _ x=>x.1) _ rl h,aA⟩
 |c2 h=>exact .inl ⟨Goes.running (λ_ _ x=>x.1) _ r0 h,aA⟩
 |c0 h=>exact .inl ⟨Goes.running (λ_ _ x=>x.1) _ r0 h,aA⟩
 |kd _ _ h _=>exact .inl ⟨Goes.running (λ_ _ x=>x.1) _ rl h,aA⟩
 |anch hr _ h _=>exact .inl ⟨Goes.running hr _ rl h,aA⟩
 |w1 _ _ h _=>exact .inl ⟨Goes.running (λ_ _ x=>x.1) _ rl h,aA⟩
 |w2 _ _ h _=>exact .inl ⟨Goes.running (λ_ _ x=>x.1) _ rl h,aA⟩
 |wr h _=>exact .inl ⟨Goes.running (λ_ _ x=>x.1) _ rl h,aA⟩
 |w3 h _=>exact .inl ⟨Goes.running (λ_ _ x=>x.1) _ rl h,aA⟩
 |blk h _=>exact .inr ⟨rfl,rfl⟩
 |w4 h _=>exact .inl ⟨Goes.running (λ_ _ x=>x.1) _ rl h,aA⟩
 |ke h _=>exact .inl ⟨Goes.running (λ_ _ x=>x.1) _ rl h,aA⟩
 |acq h _=>exact .inl ⟨Goes.running (λ_ _ x=>x.1) _ rl h,aA⟩
 |ret h _=>exact .inl ⟨Goes.running (λ_ _ x=>x.1) _ rl h,aA⟩
theorem MS.wokenBy(h:MS P ty Wg C n B M WP K ids l tag r f d g W)(a a':aI):
  ∃tag' f',MS P ty Wg C n B M WP K ids l tag' r f' d (Go.Conc.woken P a a' W g) W/\f'<=f+1/\(tag'=tag\/(tag=.blk/\tag'=.w3))/\(mayWake P a=true->a'.status=.running->tag'≠.blk):=by
 unfold Go.Conc.woken;split
 .rcases h.status with⟨hs,hne⟩|⟨_,rfl⟩
  .exact⟨tag,f,by rw[again_running _ (.inl hs)];exact h,ag,.inl rfl,λ_ _=>hne⟩
  .cases h with
   |blk hb k=>
    have h3:=hb W (BO ty Wg W);exact⟨.w3,0+1,by rw[again_blocked h3.1 h3.2.1];exact .w3 (dC hb) k,ag,.inr ⟨rfl,rfl⟩,λ_ _=>aA⟩
 .rename_i hc;exact⟨tag,f,h,ag,.inl rfl,λh1 h2=>absurd (by simp[h1,h2]) hc⟩
end
end Go.Gh
namespace Go.Gh
open Go.Conc Go.ConcN
open Go.ConcR (KK WgAt stA smA rd wr mk Payload DC0 g_of_ofEvents)
variable [qR][rJ]
def KZ(Wg:Nat)(l:Loc):Prop:=ShN Wg l\/∃a:Addr,l=.cell a/\qR.old a.block
def Wv(C j:Nat)(ix:Nat->Nat)(ow:Nat->aC)(k:Nat)(l:Loc):Prop:=rJ.el<k/\k<=j/\∃a:Addr,l=.cell a/\(a.block∈ow (k-1)\/a=⟨C,ix (k-1),none⟩)
def RdF(Wg C B:Nat)(k:Nat)(l:Loc):Prop:=rJ.el<k/\∃a:Addr,l=.cell a/\a.block<B/\a.block≠Wg/\a.block≠C/\¬qR.old a.block
class yV where
 o0:Array (Nat×ByteArray)
 os0:Os
structure Gm(Wg C B:Nat)(M:Nat->Prop)(j:Nat)(ix:Nat->Nat)(ow:Nat->aC)(l0:aC)(sz:Nat):Prop where
 hW:Wg<B
 hC:C<B
 hCW:C≠Wg
 hB:B<=sz
 own:∀i,i<j->∀b∈ow i,B<=b/\b<sz
 Fa:∀b∈l0,B<=b/\b<sz
 dis:∀i i' b,i<j->i'<j->b∈ow i->b∈ow i'->i=i'
 abw:∀i b,i<j->b∈ow i->b∉l0
 ixd:∀i i',rJ.el<=i->rJ.el<=i'->i<j->i'<j->ix i=ix i'->i=i'
 ixM:∀i,rJ.el<=i->i<j->M (ix i)
 hel:rJ.el<=j
 old:∀b,qR.old b->b<B/\b≠C
section
variable {Wg C B:Nat}{M:Nat->Prop}{j:Nat}{ix:Nat->Nat}{ow:Nat->aC}{l0:aC}{sz sz':Nat}
theorem Gm.apart(h:Gm Wg C B M j ix ow l0 sz):Apart (KZ Wg) (Wv C j ix ow) (RdF Wg C B):=by
 have hC:=h.hC;refine⟨λk k' l ⟨h1,h2,a,e,x⟩ ⟨h1',h2',a',e',x'⟩=>?_,λk k' l ⟨h1,h2,a,e,x⟩ ⟨_,a',e',y1,y2,y3,_⟩=>?_,λk l ⟨h1,h2,a,e,x⟩ Z8=>?_,λk l ⟨_,a,e,y1,y2,y3,y4⟩ Z8=>?_⟩
 .obtain rfl:a=a':=mr;rcases x with x|x<;>rcases x' with x'|x'
  .have:=h.dis (k-1) (k'-1) _ ag ag x x';omega
  .have:=h.own (k-1) ag _ x;rw[x']at this;exact axs
  .have:=h.own (k'-1) ag _ x';rw[x]at this;exact axs
  .rw[x]at x';have:=h.ixd (k-1) (k'-1) ag ag ag ag (by injection x');omega
 .obtain rfl:a=a':=mr;rcases x with x|x
  .have:=h.own (k-1) ag _ x;omega
  .rw[x]at y3;exact y3 rfl
 .obtain⟨a',e',y⟩|⟨a',e',y⟩:=Z8
  .obtain rfl:a=a':=mr;have:=h.hW;rcases x with x|x
   .have:=h.own (k-1) ag _ x;omega
   .rw[x]at y;exact h.hCW y
  .obtain rfl:a=a':=mr;have hy:=h.old _ y;rcases x with x|x
   .have:=h.own (k-1) ag _ x;omega
   .rw[x]at hy;exact hy.2 rfl
 .obtain⟨a',e',y⟩|⟨a',e',y⟩:=Z8
  .obtain rfl:a=a':=mr;exact y2 y
  .obtain rfl:a=a':=mr;exact y4 y
theorem Gm.aqO(h:Gm Wg C B M j ix ow l0 sz)(hs:sz<=sz'){i:Nat}(hi:i<j):Gm Wg C B M j ix (upd ow i (ow i++fresh sz sz')) l0 sz':=by
 have hB:=h.hB
 have mem:∀a b,a<j->b∈upd ow i (ow i++fresh sz sz') a->(b∈ow a/\b<sz)\/(a=i/\sz<=b/\b<sz'):=by
  intro a b ha hb;by_cases e:a=i
  .subst e;rw[upd_same,kK,DY]at hb;exact hb.elim (λx=>.inl ⟨x,(h.own a ha b x).2⟩) λx=>.inr ⟨rfl,x⟩
  .rw[upd_ne ow _ e]at hb;exact .inl ⟨hb,(h.own a ha b hb).2⟩
 refine⟨h.hW,h.hC,h.hCW,ag,λa ha b hb=>?_,λb hb=>by have:=h.Fa b hb;omega,λa a' b ha ha' hb A8=>?_,λa b ha hb xH=>?_,h.ixd,h.ixM,h.hel,h.old⟩
 .rcases mem a b ha hb with⟨x,y⟩|⟨_,x⟩
  .have:=h.own a ha b x;omega
  .omega
 .rcases mem a b ha hb with⟨x,y⟩|⟨x,y⟩<;>rcases mem a' b ha' A8 with⟨x',y'⟩|⟨x',y'⟩
  .exact h.dis a a' b ha ha' x x'
  .omega
  .omega
  .omega
 .rcases mem a b ha hb with⟨x,y⟩|⟨x,y⟩
  .exact h.abw a b ha x xH
  .have:=h.Fa b xH;omega
theorem Gm.aqP(h:Gm Wg C B M j ix ow l0 sz)(hs:sz<=sz'):Gm Wg C B M j ix ow (l0++fresh sz sz') sz':=by
 have hB:=h.hB;refine⟨h.hW,h.hC,h.hCW,ag,λa ha b hb=>by have:=h.own a ha b hb;omega,λb hb=>?_,h.dis,λa b ha hb xH=>?_,h.ixd,h.ixM,h.hel,h.old⟩
 .rw[kK,DY]at hb;rcases hb with hb|hb
  .have:=h.Fa b hb;omega
  .omega
 .rw[kK,DY]at xH;have:=h.own a ha b hb;exact xH.elim (h.abw a b ha hb) ag
theorem Gm.fork(h:Gm Wg C B M j ix ow l0 sz){idx:Nat}{l l0':aC}(hl:∀b∈l,b∈l0)(hl0:∀b,b∈l0'↔b∈l0/\b∉l)(hi:∀i,rJ.el<=i->i<j->ix i≠idx)(hM:M idx):
  Gm Wg C B M (j+1) (upd ix j idx) (upd ow j l) l0' sz:=by
 have mem:∀a b,a<j+1->b∈upd ow j l a->(a<j/\b∈ow a)\/(a=j/\b∈l):=by
  intro a b ha hb;by_cases e:a=j
  .subst e;rw[upd_same]at hb;exact .inr ⟨rfl,hb⟩
  .rw[upd_ne ow _ e]at hb;exact .inl ⟨ag,hb⟩
 refine⟨h.hW,h.hC,h.hCW,h.hB,λa ha b hb=>?_,λb hb=>h.Fa b ((hl0 b).1 hb).1,λa a' b ha ha' hb A8=>?_,λa b ha hb xH=>?_,λa a' la la' ha ha' e=>?_,λa la ha=>?_,by have:=h.hel;omega,h.old⟩
 .rcases mem a b ha hb with⟨x,y⟩|⟨_,y⟩
  .exact h.own a x b y
  .exact h.Fa b (hl b y)
 .rcases mem a b ha hb with⟨x,y⟩|⟨x,y⟩<;>rcases mem a' b ha' A8 with⟨x',y'⟩|⟨x',y'⟩
  .exact h.dis a a' b x x' y y'
  .exact absurd (hl b y') (h.abw a b x y)
  .exact absurd (hl b y) (h.abw a' b x' y')
  .omega
 .have xH:=(hl0 b).1 xH;rcases mem a b ha hb with⟨x,y⟩|⟨x,y⟩
  .exact h.abw a b x y xH.1
  .exact xH.2 y
 .by_cases e1:a=j<;>by_cases e2:a'=j
  .omega
  .subst e1;rw[upd_same,upd_ne ix _ e2]at e;exact absurd e.symm (hi a' la' ag)
  .subst e2;rw[upd_same,upd_ne ix _ e1]at e;exact absurd e (hi a la ag)
  .rw[upd_ne ix _ e1,upd_ne ix _ e2]at e;exact h.ixd a a' la la' ag ag e
 .by_cases e:a=j
  .subst e;rw[upd_same];exact hM
  .rw[upd_ne ix _ e];exact h.ixM a la ag
end
omit [qR][rJ]in
theorem afc{Sh:Loc->Prop}{Own Own' Rd:Nat->Loc->Prop}{t:Trace}{j:Nat}(h:CT Sh Own Rd t j)(h1:∀k l,1<=k->k<=j->Own k l->Own' k l)
  (h2:∀k l,1<=k->k<=j->Own' k l->Own k l\/∀i a,touchAt t i=some a->a.loc≠l):CT Sh Own' Rd t j:=
 ⟨h.quiet,λk k1 kj l hl=>(h2 k l k1 kj hl).elim (h.own k k1 kj l) λhn i a ha e=>absurd e (hn i a ha),h.rd,
  λl hs hl=>h.free l hs λk k1 kj=>⟨λho=>(hl k k1 kj).1 (h1 k l k1 kj ho),(hl k k1 kj).2⟩,λl hs hl=>h.mine l hs λk k1 kj ho=>hl k k1 kj (h1 k l k1 kj ho),h.nr,h.gs⟩
def Vf(Wg sz:Nat)(act:MemAct):Prop:=∀x,act.touch?=some x->(∀ad,x.loc=.cell ad->ad.block<sz)/\(x.kind=.atomic->ShN Wg x.loc)/\x.loc.isMemory=true
omit [qR][rJ]in
theorem DZ{Wg sz:Nat}{act:MemAct}(h:act.touch?=none):Vf Wg sz act:=λx hx=>by rw[h]at hx;cases hx
omit [qR][rJ]in
theorem XV{Wg sz:Nat}(a:Addr)(x:Bool)(h:a.block<sz):Vf Wg sz (MemAct.ofEvent ⟨.cell a,x,false⟩):=by
 intro z hz;rw[Go.ConcR.ofEvent_cell]at hz;simp only[MemAct.touch?,gW]at hz;subst hz;refine⟨λad e=>?_,λe=>?_,rfl⟩
 .simp only[Loc.cell.injEq]at e;subst e;exact h
 .simp at e
omit [qR][rJ]in
theorem amB{Wg sz:Nat}(a:Addr)(x y:Bool)(ha:a.block=Wg)(h:Wg<sz):Vf Wg sz (MemAct.ofEvent ⟨.cell a,x,y⟩):=by intro z hz;rw[Go.ConcR.ofEvent_cell]at hz;simp only[MemAct.touch?,gW]at hz;subst hz;refine⟨λad e=>?_,λ_=>⟨a,rfl,ha⟩,rfl⟩;simp only[Loc.cell.injEq]at e;subst e;omega
omit [qR]in
def abx(Wg sz:Nat)(op:MemOp):Prop:=∀x,op.act.touch?=some x->(∀ad,x.loc=.cell ad->ad.block<sz)/\(rJ.el<op.g->x.kind=.atomic->ShN Wg x.loc)/\(op.g≠0->x.loc.isMemory=true)
omit [qR]in
theorem Vf.g{Wg sz:Nat}{op:MemOp}(h:Vf Wg sz op.act):abx Wg sz op:=λx hx=>⟨(h x hx).1,λ_=>(h x hx).2.1,λ_=>(h x hx).2.2⟩
omit [qR]in
theorem agH{Wg a b:Nat}(h:a<=b){op:MemOp}(hl:abx Wg a op):abx Wg b op:=λx hx=>⟨λad e=>bH ((hl x hx).1 ad e) h,(hl x hx).2⟩
omit [qR]in
theorem agI{t:Trace}{Wg sz:Nat}(h:∀op∈t,abx Wg sz op){i:Nat}{a:Touch}(ha:touchAt t i=some a){ad:Addr}(e:a.loc=.cell ad):ad.block<sz:=by obtain⟨x,hx,hxa⟩:=touch_of ha;exact(h x (fJ hx) a hxa).1 ad e
def afd(Wg:Nat)(t:Trace):Prop:=∀(i:Nat)(op:MemOp)(x:Touch),t[i]?=some op->op.act.touch?=some x->x.loc.isMemory=true->op.g≠0->op.g<=rJ.el->Knows t 0 i\/(KZ Wg x.loc/\x.kind=.atomic)
def afe(t:Trace):Prop:=∀i g,t.g? i=some g->g≠0->g<=rJ.el->t.counts i->∃q,t.g? q=some 0/\HappensBefore t i q
def O6(u:Trace):Prop:=∀op∈u,op.g=0\/rJ.el<op.g\/op.act.touch?=none
theorem afd.app{Wg:Nat}{t u:Trace}(h:afd Wg t)(hu:O6 u):afd Wg (t++u):=by
 intro i op x hi hx hm h0 he;rcases getElem?_append_cases hi with⟨_,IC⟩|⟨_,hiu⟩
 .exact(h i op x IC hx hm h0 he).imp (·.app u) id
 .rcases hu op hiu with h1|h1|h1
  .exact absurd h1 h0
  .omega
  .rw[h1]at hx;cases hx
omit [qR]in
theorem afe.app{t u:Trace}(h:afe t)(hu:O6 u):afe (t++u):=by
 intro i g hg hne he hc;obtain⟨x,hx,hx'⟩:=hc;obtain⟨op,uZ,hox⟩:=touch_of hx;rcases getElem?_append_cases uZ with⟨hi,arD⟩|⟨_,apG⟩
 .obtain⟨j,hj,hb⟩:=h i g (by simpa[Trace.g?,getElem?_append_old hi]using hg) hne he ((counts_old hi).1 ⟨x,hx,hx'⟩)
  have Oc:j<t.size:=by unfold Trace.g? at hj;obtain⟨z,hz,_⟩:=dU.1 hj;exact lt_size_of_getElem? hz
  exact⟨j,by simpa[Trace.g?,getElem?_append_old Oc]using hj,hb_app u hb⟩
 .have e:op.g=g:=by simpa[Trace.g?,uZ]using hg
  rcases hu op apG with h1|h1|h1
  .omega
  .omega
  .rw[h1]at hox;cases hox
omit [qR]in
theorem Io{i:Nat}{fn:aU}{pos:String}{es:aN}(h:i=0\/rJ.el<i):O6 (MemOp.ofEvents i fn pos es):=λop uZ=>by obtain⟨e,_,rfl⟩:=Go.Conc.mem_ofEvents uZ;exact h.imp id .inl
omit [rJ]in
theorem ajC{Wg:Nat}{Own Rd:Nat->Loc->Prop}{k:Nat}{fn:aU}{pos:String}{es:aN}(h:∀e∈es,Go.ConcR.Bk Wg e):∀op∈MemOp.ofEvents k fn pos es,OkW (KZ Wg) Own Rd k op:=
 λop uZ=>let y:=okW_of_Bk h op uZ;⟨y.1,λx hx=>(y.2 x hx).imp (λz=>⟨.inl z.1,z.2⟩) id⟩
omit [rJ]in
theorem amC{Wg:Nat}{Own Rd:Nat->Loc->Prop}{k:Nat}{fn:aU}{pos:String}{es:aN}(h:∀e∈es,(MemAct.ofEvent e).touch?=none):∀op∈MemOp.ofEvents k fn pos es,OkW (KZ Wg) Own Rd k op:=λop uZ=>by obtain⟨e,he,rfl⟩:=Go.Conc.mem_ofEvents uZ;exact⟨rfl,λx hx=>by simp only[h e he]at hx;cases hx⟩
omit [rJ]in
theorem ao4{Wg j:Nat}{Own Rd:Nat->Loc->Prop}{fn:aU}{pos:String}{es:aN}(h:∀e∈es,Go.ConcR.Bk Wg e):∀op∈MemOp.ofEvents 0 fn pos es,Ok0 (KZ Wg) Own Rd j op:=λop uZ=>by
 obtain⟨e,he,rfl⟩:=Go.Conc.mem_ofEvents uZ;refine⟨rfl,λx hx=>?_⟩;rcases h e he with h1|h1|⟨a,wr,rfl,ha⟩
 .exact ayS
 .exact ayS
 .simp only[Go.ConcR.ofEvent_cell,MemAct.touch?,gW]at hx;subst hx;exact .inl ⟨.inl ⟨a,rfl,ha⟩,aA⟩
omit [rJ]in
theorem Zu{Wg:Nat}{b:Addr}(h1:b.block≠Wg)(h2:¬qR.old b.block):¬KZ Wg (.cell b):=λh=>
 h.elim (λ⟨a,e,y⟩=>by obtain rfl:=fG e;exact h1 y) (λ⟨a,e,y⟩=>by obtain rfl:=fG e;exact h2 y)
def Zv(Wg:Nat)(t:Trace):Prop:=∀i,rJ.ts<=i->t.act? i≠some (.mark (.release (stA Wg)))
omit [qR]in
theorem Zv.app{Wg:Nat}{t u:Trace}(h:Zv Wg t)(hu:∀op∈u,op.act≠.mark (.release (stA Wg))):Zv Wg (t++u):=λi hi e=>by
 obtain⟨op,uZ,hoe⟩:=dU.1 e;rcases getElem?_append_cases uZ with⟨_,arD⟩|⟨_,apG⟩
 .exact h i hi (by unfold Trace.act?;rw[arD];exact bI some hoe)
 .exact hu op apG hoe
omit [qR]in
def NJ(Wg j:Nat)(t:Trace):Prop:=
 ∃q,t.act? q=some (.mark (.acquire (stA Wg)))/\t.g? q=some 0/\t.heard q/\∀i,rJ.el<=i->i<j->∃r,RelBy (stA Wg) t (i+1) r/\r<q/\rJ.ts<=r
omit [qR]in
theorem NJ.app{Wg j:Nat}{t u:Trace}(h:NJ Wg j t)(hu:∀i r,rJ.el<=i->i<j->RelBy (stA Wg) t (i+1) r->RelBy (stA Wg) (t++u) (i+1) r):NJ Wg j (t++u):=by obtain⟨q,h1,h2,h3,h4⟩:=h;have hq:=lt_of_act? h1;exact⟨q,by rw[act?_old hq];exact h1,by rw[g?_old hq];exact h2,(heard_old hq).2 h3,λi hl hi=>let⟨r,hr,hrq⟩:=h4 i hl hi;⟨r,hu i r hl hi hr,hrq⟩⟩
end Go.Gh
namespace Go.Gh
open Go.Conc Go.ConcN
open Go.ConcR (KK WgAt stA smA rd wr mk Payload DC0 g_of_ofEvents Bk)
variable [Payload][qR][rJ][yV]
section
variable (P:aP)(ty:aG)(Wg C n B:Nat)(M:Nat->Prop)(WP:Nat->ai->ah->Prop)
structure Cm(j:Nat)(gs:dD)(W:ah)(t:Trace)(D:Nat->WD)(ix:Nat->Nat)(ow:Nat->aC)(l0:aC)(d0:Nat):Prop where
 size:gs.size=j+1
 wk:∀i,rJ.el<=i->i<j->∃g,gs[i+1]?=some g/\WS P ty Wg C n B WP (ix i) (ow i) (D i).stage (D i).fuel (D i).deaf g W
 eld:∀i,i<rJ.el->∃g,gs[i+1]?=some g/\(D i).stage=1/\QuitsD P (D i).fuel (D i).deaf g
 past:afd Wg t
 over:afe t
 ct:CT (KZ Wg) (Wv C j ix ow) (RdF Wg C B) t j
 norel:Zv Wg t
 hts:rJ.ts<=t.size
 low:∀op∈t,abx Wg W.heap.size op
 deaf0:Deaf t 0=d0
 deafW:∀i,i<j->Deaf t (i+1)=(D i).deaf
 rel:∀i,rJ.el<=i->i<j->(D i).stage<=6->∃r,RelBy (stA Wg) t (i+1) r/\rJ.ts<=r
 pay:PayAt C n W
 gm:Gm Wg C B M j ix ow l0 W.heap.size
 out:W.output=yV.o0
 os:W.os=yV.os0
end
section
variable {P:aP}{ty:aG}{Wg C n B:Nat}{M:Nat->Prop}{WP:Nat->ai->ah->Prop}{j:Nat}{gs:dD}{W W':ah}{t:Trace}{D:Nat->WD}{ix:Nat->Nat}{ow:Nat->aC}{l0:aC}{d0:Nat}
omit [Payload][qR][rJ][yV]in
theorem aby{P:aP}{main:Bool}{g g':aI}{es:aN}(h:stepG P main g W=.go g' W' es):W'.output=W.output:=(Ik P W.output (w:=W) h).2
omit [Payload][qR][yV]in
theorem TF{u:Trace}{a b:Nat}(h:∀op∈t,abx Wg a op)(V7:a<=b)(hu:∀op∈u,Vf Wg b op.act):∀op∈t++u,abx Wg b op:=λop uZ=>(nN.1 uZ).elim (λx=>agH V7 (h op x)) (λx=>(hu op x).g)
theorem Cm.at(hWP:∀idx v w w₁,Ro Wg C n B (λ_=>False) w w₁->WP idx v w->WP idx v w₁)(h:Cm P ty Wg C n B M WP j gs W t D ix ow l0 d0)(d:Nat):Cm P ty Wg C n B M WP j gs (W.at d) t D ix ow l0 d0:=
 ⟨h.size,λi L_ hi=>let⟨g,hg,hs⟩:=h.wk i L_ hi
  ⟨g,hg,hs.rely (hWP _) (lo:=[]) (Cm:=λ_=>False) (Qk.at W d) h.gm.hB aA (λb hb=>⟨aA,(h.gm.own i hi b hb).2,by have:=(h.gm.own i hi b hb).1;have:=h.gm.hC;omega,by have:=(h.gm.own i hi b hb).1;have:=h.gm.hW;omega⟩) id⟩,h.eld,h.past,h.over,h.ct,h.norel,h.hts,h.low,h.deaf0,h.deafW,h.rel,h.pay,h.gm,h.out,h.os⟩
omit [Payload][yV]in
theorem agJ(hl:∀op∈t,abx Wg W.heap.size op)(Ba:CT (KZ Wg) (Wv C j ix ow) (RdF Wg C B) t j)(i:Nat):
  CT (KZ Wg) (Wv C j ix (upd ow i (ow i++fresh W.heap.size W'.heap.size))) (RdF Wg C B) t j:=by
 refine afc Ba (λk l _ kj ⟨k1,_,a,e,x⟩=>⟨k1,kj,a,e,x.imp (λy=>?_) id⟩) (λk l _ kj ⟨k1,_,a,e,x⟩=>?_)
 .by_cases ek:k-1=i
  .rw[ek,upd_same];rw[ek]at y;exact auR _ y
  .rw[upd_ne ow _ ek];exact y
 .rcases x with x|x
  .by_cases ek:k-1=i
   .rw[ek,upd_same,kK,DY]at x;rcases x with x|x
    .exact .inl ⟨k1,kj,a,e,.inl (by rw[ek];exact x)⟩
    .exact .inr λi' b hb e'=>by have:=agI hl hb (e'.trans e);omega
   .rw[upd_ne ow _ ek]at x;exact .inl ⟨k1,kj,a,e,.inl x⟩
  .exact .inl ⟨k1,kj,a,e,.inr x⟩
theorem Cm.stepW(hWP:∀idx v w w₁,Ro Wg C n B (λ_=>False) w w₁->WP idx v w->WP idx v w₁)(h:Cm P ty Wg C n B M WP j gs W t D ix ow l0 d0){i:Nat}(L_:rJ.el<=i)(hi:i<j){g g':aI}{fn:aU}{pos:String}{es:aN}{s' m' dd':Nat}
  (hc:Qk ty Wg C n (ow i) (· =ix i) W W') (xk:WS P ty Wg C n B WP (ix i) (ow i++fresh W.heap.size W'.heap.size) s' m' dd' g' W')
  (L8:∀op∈MemOp.ofEvents (i+1) fn pos es,OkW (KZ Wg) (Wv C j ix (upd ow i (ow i++fresh W.heap.size W'.heap.size))) (RdF Wg C B) (i+1) op) (vU:∀e∈es,Vf Wg W'.heap.size (MemAct.ofEvent e))
  (hnr:∀e∈es,e.loc≠.mark (.release (stA Wg))) (ak1:deafBehind (D i).deaf es=dd')
  (hrel:s'<=6->∃r,RelBy (stA Wg) (t++MemOp.ofEvents (i+1) fn pos es) (i+1) r/\rJ.ts<=r) (ho:W'.output=W.output):
  Cm P ty Wg C n B M WP j ((gs.map (woken P g g' W')).setIfInBounds (i+1) g') W' (t++MemOp.ofEvents (i+1) fn pos es) (upd D i ⟨s',m',dd'⟩) ix (upd ow i (ow i++fresh W.heap.size W'.heap.size)) l0 d0:=by
 have gm':=h.gm.aqO (sz':=W'.heap.size) hc.size hi
 refine⟨lu,λi' TM IC=>?_,λi' TM=>?_,h.past.app (Io (.inr ag)),h.over.app (Io (.inr ag)),(agJ h.low h.ct i).appW gm'.apart ag ag L8,h.norel.app (norel_of hnr),aus,
  TF h.low hc.size (λop uZ=>by obtain⟨e,he,rfl⟩:=Go.Conc.mem_ofEvents uZ;exact vU e he),awO,λi' IC=>?_,λi' TM IC uw=>?_,hc.pay h.pay,gm',ho.trans h.out,hc.os.trans h.os⟩
 rotate_left
 .obtain⟨x,hx,D5,N8⟩:=h.eld i' TM;refine⟨x,avx,?_⟩;rw[upd_ne D _ ag];exact⟨D5,N8⟩
 rotate_left 2
 .by_cases e:i'=i
  .subst e;exact⟨g',get_map_set_same _ _ _ aun,by rw[upd_same,upd_same];exact xk⟩
  .obtain⟨x,hx,hsx⟩:=h.wk i' TM IC;refine⟨x,avy,?_⟩;rw[upd_ne D _ e,upd_ne ow _ e];refine hsx.rely (hWP _) hc h.gm.hB (λb hb=>(h.gm.own i hi b hb).1) (λb hb=>⟨λA8=>e (h.gm.dis i' i b IC hi hb A8),(h.gm.own i' IC b hb).2,?_,?_⟩) (λe'=>e (h.gm.ixd i' i TM L_ IC hi e'))
   .have:=(h.gm.own i' IC b hb).1;have:=h.gm.hC;omega
   .have:=(h.gm.own i' IC b hb).1;have:=h.gm.hW;omega
 .by_cases e:i'=i
  .subst e;rw[Deaf_own,h.deafW i' IC,upd_same];exact ak1
  .exact aym
 .by_cases e:i'=i
  .subst e;rw[upd_same]at uw;exact hrel uw
  .rw[upd_ne D _ e]at uw;exact aye
theorem Cm.step0(hWP:∀idx v w w₁,Ro Wg C n B (λ_=>False) w w₁->WP idx v w->WP idx v w₁)(h:Cm P ty Wg C n B M WP j gs W t D ix ow l0 d0){a a':aI}{fn:aU}{pos:String}{es:aN}
  (hc:Qk ty Wg C n l0 (λi=>¬M i) W W')
  (L8:∀op∈MemOp.ofEvents 0 fn pos es,Ok0 (KZ Wg) (Wv C j ix ow) (RdF Wg C B) j op) (vU:∀e∈es,Vf Wg W'.heap.size (MemAct.ofEvent e)) (hnr:∀e∈es,e.loc≠.mark (.release (stA Wg))) (ho:W'.output=W.output):
  Cm P ty Wg C n B M WP j ((gs.map (woken P a a' W')).setIfInBounds 0 a') W' (t++MemOp.ofEvents 0 fn pos es) D ix ow (l0++fresh W.heap.size W'.heap.size) (deafBehind d0 es):=by
 refine⟨lu,λi L_ hi=>?_,λi hi=>?_,h.past.app (Io (.inl rfl)),h.over.app (Io (.inl rfl)),h.ct.app0 h.gm.apart L8,h.norel.app (norel_of hnr),aus,TF h.low hc.size (λop uZ=>by obtain⟨e,he,rfl⟩:=Go.Conc.mem_ofEvents uZ;exact vU e he),
  by rw[Deaf_own,h.deaf0],λi hi=>by rw[Deaf_other t ag _ g_of_ofEvents,h.deafW i hi],λi L_ hi uw=>?_,hc.pay h.pay,h.gm.aqP hc.size,ho.trans h.out,hc.os.trans h.os⟩
 .obtain⟨x,hx,hsx⟩:=h.wk i L_ hi;refine⟨x,avy,hsx.rely (hWP _) hc h.gm.hB (λb hb=>(h.gm.Fa b hb).1) (λb hb=>⟨h.gm.abw i b hi hb,(h.gm.own i hi b hb).2,?_,?_⟩) (λhn=>hn (h.gm.ixM i L_ hi))⟩
  .have:=(h.gm.own i hi b hb).1;have:=h.gm.hC;omega
  .have:=(h.gm.own i hi b hb).1;have:=h.gm.hW;omega
 .obtain⟨x,hx,D5,N8⟩:=h.eld i hi;exact⟨x,avx,D5,N8⟩
 .obtain⟨r,hr,VT⟩:=h.rel i L_ hi uw;exact⟨r,hr.appOther g_of_ofEvents ag,VT⟩
theorem Cm.spawn(h:Cm P ty Wg C n B M WP j gs W t D ix ow l0 0){a' child:aI}{x y:MemOp}{m idx:Nat}{l l0':aC}(hx:x.g=0/\x.act=.go (j+1))(hy:y.g=j+1/\y.act=.start)
  (hl:∀b∈l,b∈l0) (hl0:∀b,b∈l0'↔b∈l0/\b∉l) (hid:∀i,rJ.el<=i->i<j->ix i≠idx) (hM:M idx) (hc:Wk P ty Wg C n B WP idx m child (gw W l)):
  Cm P ty Wg C n B M WP (j+1) ((gs.setIfInBounds 0 a').push child) W (t++#[x,y]) (upd D j ⟨7,m+24,0⟩) (upd ix j idx) (upd ow j l) l0' 0:=by
 have gm':=h.gm.fork hl hl0 hid hM;have hm:∀op∈#[x,y],op=x\/op=y:=by intro op uZ;simpa using uZ
 have uw:∀op∈#[x,y],op.act≠.mark .disable/\op.act≠.mark .enable:=by
  intro op uZ;rcases hm op uZ with rfl|rfl
  .rw[hx.2];exact⟨aA,aA⟩
  .rw[hy.2];exact⟨aA,aA⟩
 have Ba:CT (KZ Wg) (Wv C (j+1) (upd ix j idx) (upd ow j l)) (RdF Wg C B) t j:=by
  refine afc h.ct (λk l' _ kj ⟨k1,_,a,e,z⟩=>⟨k1,ag,a,e,?_⟩) (λk l' _ kj ⟨k1,_,a,e,z⟩=>.inl ⟨k1,kj,a,e,?_⟩)
  .rw[upd_ne ow _ ag,upd_ne ix _ ag];exact z
  .rw[upd_ne ow _ ag,upd_ne ix _ ag]at z;exact z
 have hel:=h.gm.hel;have hne:O6 #[x,y]:=λop uZ=>(hm op uZ).elim (λe=>.inl (by rw[e];exact hx.1)) (λe=>.inr (.inl (by rw[e,hy.1];omega)))
 refine⟨lu,λi L_ hi=>?_,λi hi=>?_,h.past.app hne,h.over.app hne,Ba.fork gm'.apart hx hy h.deaf0,h.norel.app λop uZ=>?_,aus,TF h.low (ay _) (λop uZ=>?_),by rw[Deaf_still t 0 _ uw,h.deaf0],λi hi=>?_,λi L_ hi hs=>?_,h.pay,gm',h.out,h.os⟩
 .rcases bK i j with qB|NV
  .obtain⟨g,hg,hsg⟩:=h.wk i L_ qB;refine⟨g,?_,by rw[upd_ne D _ ag,upd_ne ix _ ag,upd_ne ow _ ag];exact hsg⟩;exact axR
  .obtain rfl:i=j:=ag;refine⟨child,?_,by rw[upd_same,upd_same,upd_same];exact .comp hc⟩;rw[show i+1=(gs.setIfInBounds 0 a').size by simp[h.size],Array.getElem?_push_size]
 .obtain⟨g,hg,Ko,Oe⟩:=h.eld i hi;refine⟨g,?_,by rw[upd_ne D _ ag];exact⟨Ko,Oe⟩⟩;exact axR
 .rcases hm op uZ with rfl|rfl
  .rw[hx.2];simp
  .rw[hy.2];simp
 .rcases hm op uZ with rfl|rfl
  .rw[hx.2];exact DZ rfl
  .rw[hy.2];exact DZ rfl
 .rw[Deaf_still t _ _ uw];rcases bK i j with qB|NV
  .rw[h.deafW i qB,upd_ne D _ ag]
  .obtain rfl:i=j:=ag;rw[upd_same];exact Deaf_absent λa op ha e=>by have:=h.ct.gs a op ha;omega
 .rcases bK i j with qB|NV
  .rw[upd_ne D _ ag]at hs;obtain⟨r,hr,VT⟩:=h.rel i L_ qB hs;refine⟨r,hr.appNot (λop uZ=>?_),VT⟩;rcases hm op uZ with rfl|rfl
   .rw[hx.1];omega
   .rw[hy.1];omega
  .obtain rfl:i=j:=ag;rw[upd_same]at hs;simp at hs
end
end Go.Gh
namespace Go.Gh
open Go.Conc Go.ConcN
open Go.ConcR (KK WgAt stA smA rd wr mk Payload DC0 g_of_ofEvents Bk bk_of_mute ofEvent_loc_mark ofEvent_cell)
variable [Payload][qR][rJ][yV]
omit [Payload][qR][rJ][yV]in
theorem ED(a:Nat):fresh a a=[]:=by simp[fresh]
section
variable (P:aP)(ty:aG)(Wg C n B:Nat)(M:Nat->Prop)(WP:Nat->ai->ah->Prop)(K:aC->aI->ah->Prop)(N:Nat)
def Iv(μ:Nat×Nat)(m:Machine)(t:Trace):Prop:=
 ∃(gs:dD)(W:ah)(sl:Option (Nat×Nat))(j:Nat)(D:Nat->WD)(ix:Nat->Nat)(ow:Nat->aC)(tag:CTag)(r f0 d0:Nat)(a:aI)(st sm:Int)(l0 ids:aC),
  m=crowd gs W sl/\gs[0]?=some a/\MS P ty Wg C n B M WP K ids l0 tag r f0 d0 a W/\Cm P ty Wg C n B M WP j gs W t D ix ow l0 d0/\WgAt ty Wg W st sm/\ConcN.Mode j D tag st sm/\
  (tag=.ret->NJ Wg j t)/\(∀i,rJ.el<=i->i<j->ix i∈ids)/\(∀x∈ids,∃i,rJ.el<=i/\i<j/\ix i=x)/\j+r=N/\μ=(phi N (Vc j D) tag+Ssum j D,f0+2*Fsum j D)
structure PN:Prop where
 wp:∀idx v w w₁,Ro Wg C n B (λ_=>False) w w₁->WP idx v w->WP idx v w₁
 k:∀ids g w w₁,Ro Wg C n B (λi=>¬M i) w w₁->K ids g w->K ids g w₁
end
section
variable {P:aP}{ty:aG}{Wg C n B:Nat}{M:Nat->Prop}{WP:Nat->ai->ah->Prop}{K:aC->aI->ah->Prop}{N:Nat}
 {gs:dD} {W W':ah} {sl:Option (Nat×Nat)} {j:Nat} {D:Nat->WD} {ix:Nat->Nat} {ow:Nat->aC} {tag:CTag} {r f0 d0:Nat} {a:aI} {t:Trace} {st sm:Int} {l0 ids:aC}
theorem PQ(hb:PN Wg C n B M WP K)(ha:gs[0]?=some a)(QM:MS P ty Wg C n B M WP K ids l0 tag r f0 d0 a W)(sJ:Cm P ty Wg C n B M WP j gs W t D ix ow l0 d0)
  (F_:∀i,rJ.el<=i->i<j->ix i∈ids) (IG:∀x∈ids,∃i,rJ.el<=i/\i<j/\ix i=x) (hN:j+r=N)
  {i:Nat} (L_:rJ.el<=i) (hi:i<j) {g g':aI} {es:aN} {s' m' dd':Nat} {st' sm':Int} (hg:gs[i+1]?=some g) (hgo:stepG P false g W=.go g' W' es)
  (hc:Qk ty Wg C n (ow i) (· =ix i) W W') (xk:WS P ty Wg C n B WP (ix i) (ow i++fresh W.heap.size W'.heap.size) s' m' dd' g' W')
  (L8:∀op∈MemOp.ofEvents (i+1) g.frame.fn g.frame.place es,OkW (KZ Wg) (Wv C j ix (upd ow i (ow i++fresh W.heap.size W'.heap.size))) (RdF Wg C B) (i+1) op) (vU:∀e∈es,Vf Wg W'.heap.size (MemAct.ofEvent e))
  (hnr:∀e∈es,e.loc≠.mark (.release (stA Wg))) (ak1:deafBehind (D i).deaf es=dd')
  (hrel:s'<=6->∃r,RelBy (stA Wg) (t++MemOp.ofEvents (i+1) g.frame.fn g.frame.place es) (i+1) r/\rJ.ts<=r) (wV:WgAt ty Wg W' st' sm')
  (qV:∀tag',(tag'=tag\/(tag=.blk/\tag'=.w3))->(mayWake P g=true->g'.status=.running->tag'≠.blk)->ConcN.Mode j (upd D i ⟨s',m',dd'⟩) tag' st' sm')
  (DL:tag=.ret->NJ Wg j (t++MemOp.ofEvents (i+1) g.frame.fn g.frame.place es))
  (qB:(s'<(D i).stage/\cnt ⟨s',m',dd'⟩<=cnt (D i))\/(s'=(D i).stage/\m'+1<=(D i).fuel)):
  ∃m₁ ops μ',runT P (crowd gs W sl) (i+1)=(.next m₁,ops)/\Lt2 μ' (phi N (Vc j D) tag+Ssum j D,f0+2*Fsum j D)/\Iv P ty Wg C n B M WP K N μ' m₁ (t++ops):=by
 have asa:=QM.rely hb.k hc sJ.gm.hB (λb hb=>(sJ.gm.own i hi b hb).1) (λb xH=>⟨λhbi=>sJ.gm.abw i b hi hbi xH,(sJ.gm.Fa b xH).2,by have:=(sJ.gm.Fa b xH).1;have:=sJ.gm.hC;omega,by have:=(sJ.gm.Fa b xH).1;have:=sJ.gm.hW;omega⟩) (λx hx=>by subst hx;exact sJ.gm.ixM i L_ hi);obtain⟨tag',f',JI,hf',aex,hwk⟩:=asa.wokenBy g g';have r_:=runT_crowd_go (P:=P) (sl:=sl) (i:=i+1) hg (by simpa using hgo);have e1:=sumTo_upd D (⟨s',m',dd'⟩:WD) cnt hi;have e2:=sumTo_upd D (⟨s',m',dd'⟩:WD) WD.stage hi;have e3:=sumTo_upd D (⟨s',m',dd'⟩:WD) WD.fuel hi
 refine⟨_,_,(phi N (Vc j (upd D i ⟨s',m',dd'⟩)) tag'+Ssum j (upd D i ⟨s',m',dd'⟩),f'+2*Fsum j (upd D i ⟨s',m',dd'⟩)),r_,?_,
  _,W',sl,j,upd D i ⟨s',m',dd'⟩,ix,_,tag',r,f',d0,woken P g g' W' a,st',sm',l0,ids,rfl,awz,JI,sJ.stepW hb.wp L_ hi hc xk L8 vU hnr ak1 hrel (aby hgo),wV,qV tag' aex hwk,?_,F_,IG,hN,rfl⟩
 .rw[phi_retag N _ aex];simp only[Vc,Ssum,Fsum]at*;rcases qB with⟨h1,h2⟩|⟨h1,h2⟩
  .refine Prod.Lex.left _ _ ?_;have:=phi_mono N (v':=sumTo j λa=>cnt (upd D i ⟨s',m',dd'⟩ a)) (v:=sumTo j λa=>cnt (D a)) ag tag;omega
  .have ec:cnt (⟨s',m',dd'⟩:WD)=cnt (D i):=by simp only[cnt,h1]
   have ev:(sumTo j λa=>cnt (upd D i ⟨s',m',dd'⟩ a))=sumTo j λa=>cnt (D a):=ag
   have rF:(sumTo j λa=>(upd D i ⟨s',m',dd'⟩ a).stage)=sumTo j λa=>(D a).stage:=ag
   rw[ev,rF];refine Prod.Lex.right _ ?_;omega
 .intro e;rcases aex with rfl|⟨_,rfl⟩
  .exact DL e
  .cases e
omit [Payload][qR][rJ][yV]in
theorem ajD{es:aN}(h:∀e∈es,Bk Wg e){sz:Nat}(hW:Wg<sz):∀e∈es,Vf Wg sz (MemAct.ofEvent e):=by
 intro e he;rcases h e he with h1|h1|⟨a,wr,rfl,ha⟩
 .exact DZ awv
 .exact DZ awv
 .exact amB _ _ _ ha hW
theorem aff(hb:PN Wg C n B M WP K)(Wh:N<2147483648)(ha:gs[0]?=some a)(QM:MS P ty Wg C n B M WP K ids l0 tag r f0 d0 a W)(sJ:Cm P ty Wg C n B M WP j gs W t D ix ow l0 d0)
  (wV:WgAt ty Wg W st sm) (qV:ConcN.Mode j D tag st sm) (DL:tag=.ret->NJ Wg j t) (F_:∀i,rJ.el<=i->i<j->ix i∈ids) (IG:∀x∈ids,∃i,rJ.el<=i/\i<j/\ix i=x) (hN:j+r=N) (ajE:j+pend tag<=N)
  {i:Nat} (L_:rJ.el<=i) (hi:i<j) {g:aI} (hg:gs[i+1]?=some g) (r_:g.status=.running)
  {v:ai} {s m dd:Nat} (hs:WSit P ty Wg C n NoF NoF 0 (ix i+1) v s m dd g W) (h23:s=7->m<=23) (hwp:WP (ix i) v (gw W (ow i))) (apH:s<=6->Has C (ix i) v W) (uw:(D i).stage=s) (hfu:m<=(D i).fuel) (hde:(D i).deaf=dd):
  ∃m₁ ops μ',runT P (crowd gs W sl) (i+1)=(.next m₁,ops)/\Lt2 μ' (phi N (Vc j D) tag+Ssum j D,f0+2*Fsum j D)/\Iv P ty Wg C n B M WP K N μ' m₁ (t++ops):=by
 have hVj:=Vc_le j D;have hdk:Deaf t (i+1)=dd:=by rw[sJ.deafW i hi,hde]
 have hWs:Wg<W.heap.size:=bH sJ.gm.hW sJ.gm.hB
 have lib:∀{W':ah}{s' m' dd':Nat}{g':aI},Aside Wg W W'->WgLive ty Wg W'->WSit P ty Wg C n NoF NoF 0 (ix i+1) v s' m' dd' g' W'->(s'=7->m'<=23)->(s'<=6->Has C (ix i) v W)->WS P ty Wg C n B WP (ix i) (ow i++fresh W.heap.size W'.heap.size) s' m' dd' g' W':=by intro W' s' m' dd' g' hA hl xk ajF hh;have hc:Qk ty Wg C n [] (λ_=>False) W W':=Qk.of_wg hA hl sJ.gm.hCW;have I9:=hc.ro (B:=B) (l:=ow i) (Cl:=λ_=>False) sJ.gm.hB aA (λb A8=>⟨aA,(sJ.gm.own i hi b A8).2,aw8,aw7⟩) (λ_=>False.elim);rw[hA.size,ED,dX];exact .lib xk ajF (hb.wp _ _ _ _ I9 hwp) (λh=>(hc.cells _ id).trans (hh h))
 have bookG:∀{g':aI}{W':ah}{es:aN}{s' m' dd':Nat}{st' sm':Int},stepG P false g W=.go g' W' es->Aside Wg W W'->WgAt ty Wg W' st' sm'->(∀e∈es,Bk Wg e)->
   (∀jx e,es[jx]?=some e->(MemAct.ofEvent e).touch?=none\/0<deafBehind dd (es.extract 0 jx))->WSit P ty Wg C n NoF NoF 0 (ix i+1) v s' m' dd' g' W'->(s'=7->m'<=23)->deafBehind dd es=dd'->s<=6->
   (∀tag',(tag'=tag\/(tag=.blk/\tag'=.w3))->(mayWake P g=true->g'.status=.running->tag'≠.blk)->ConcN.Mode j (upd D i ⟨s',m',dd'⟩) tag' st' sm')->(tag=.ret->NJ Wg j (t++MemOp.ofEvents (i+1) g.frame.fn g.frame.place es))->((s'<s/\cnt ⟨s',m',dd'⟩<=cnt (D i))\/(s'=s/\m'+1<=(D i).fuel))->
   ∃m₁ ops μ',runT P (crowd gs W sl) (i+1)=(.next m₁,ops)/\Lt2 μ' (phi N (Vc j D) tag+Ssum j D,f0+2*Fsum j D)/\Iv P ty Wg C n B M WP K N μ' m₁ (t++ops):=by
  intro g' W' es s' m' dd' st' sm' hgo hAs L9 Jg hd xk ajF hdd h6 IK ak2 qB
  exact PQ hb ha QM sJ F_ IG hN L_ hi hg hgo (Qk.of_wg hAs ⟨_,_,L9⟩ sJ.gm.hCW) (lib hAs ⟨_,_,L9⟩ xk ajF (λ_=>apH ag)) (ajC Jg) (ajD Jg (by rw[hAs.size];exact hWs)) (norel_of_Bk Jg) (by rw[hde];exact hdd)
   (λ_=>let⟨r,hr,VT⟩:=sJ.rel i L_ hi ag;⟨r,hr.book hdk _ _ Jg hd,VT⟩) L9 IK ak2 (by rw[uw];exact qB)
 have book:∀{g':aI}{W':ah}{es:aN}{s' m' dd':Nat}{st' sm':Int},stepG P false g W=.go g' W' es->Aside Wg W W'->WgAt ty Wg W' st' sm'->(∀e∈es,Bk Wg e)->
   (∀jx e,es[jx]?=some e->(MemAct.ofEvent e).touch?=none\/0<deafBehind dd (es.extract 0 jx))->WSit P ty Wg C n NoF NoF 0 (ix i+1) v s' m' dd' g' W'->(s'=7->m'<=23)->deafBehind dd es=dd'->s<=6->
   ConcN.Mode j (upd D i ⟨s',m',dd'⟩) tag st' sm'->(tag=.ret->NJ Wg j (t++MemOp.ofEvents (i+1) g.frame.fn g.frame.place es))->((s'<s/\cnt ⟨s',m',dd'⟩<=cnt (D i))\/(s'=s/\m'+1<=(D i).fuel))->
   ∃m₁ ops μ',runT P (crowd gs W sl) (i+1)=(.next m₁,ops)/\Lt2 μ' (phi N (Vc j D) tag+Ssum j D,f0+2*Fsum j D)/\Iv P ty Wg C n B M WP K N μ' m₁ (t++ops):=
  λhgo hAs L9 Jg hd xk ajF hdd h6 IK ak2 qB=>bookG hgo hAs L9 Jg hd xk ajF hdd h6 (λ_ ht _=>IK.retag ht) ak2 qB
 have idle:∀{g':aI}{m':Nat},stepG P false g W=.go g' W #[]->WSit P ty Wg C n NoF NoF 0 (ix i+1) v s m' dd g' W->m'+1=m->s<=6->s≠1->
   ∃m₁ ops μ',runT P (crowd gs W sl) (i+1)=(.next m₁,ops)/\Lt2 μ' (phi N (Vc j D) tag+Ssum j D,f0+2*Fsum j D)/\Iv P ty Wg C n B M WP K N μ' m₁ (t++ops):=by
  intro g' m' hgo xk hm h6 h1;exact book hgo (.refl Wg W) wV aA aA xk ag rfl h6 (by have:=qV.same (i:=i) m' dd;rwa[uw]at this) (λe=>absurd e (qV.not_ret hi ag)) (.inr ⟨rfl,ag⟩)
 have nr:s≠1->tag≠.ret:=λh=>qV.not_ret hi ag
 cases hs with
 |r0 h=>
  rcases Goes.cases h with sQ|⟨m',rfl,qU⟩
  .obtain⟨_,hh,g',hgo,m₂,hk⟩:=sQ W (RW.refl W)
   exact PQ hb ha QM sJ F_ IG hN L_ hi hg hgo (.refl W) (lib (.refl Wg W) ⟨_,_,wV⟩ (.k1 hk) ag (λ_=>by simpa using hh)) (amC (by intro e he;simp at he;subst he;rfl)) (by intro e he;simp at he;subst he;exact DZ rfl) (by intro e he;simp at he;subst he;simp[mk]) (by rw[hde];rfl)
    (λ_=>⟨t.size,RelBy.new hdk _ _,sJ.hts⟩) wV (λ_ ht _=>(qV.counted hi ag (.inl rfl) _ _).retag ht) (λe=>absurd e (nr ag)) (.inl ⟨ag,by simp[cnt,uw]⟩)
  .obtain⟨g',W',es,hgo,⟨hac,hev⟩,um⟩:=qU W (RW.refl W);simp only[iK]at hac;have hfr:fresh W.heap.size W'.heap.size=[]:=by rw[hac.size,ED]
   have hc:Qk ty Wg C n (ow i) (· =ix i) W W':=⟨fA hac.size.symm,hac.tape,hac.os,λb _ _ hbC _=>hac.block b hbC,λx hx=>hac.cells x hx,hac.pay,λ⟨a,b,x⟩=>⟨a,b,x.of_block (hac.block Wg (dE sJ.gm.hCW))⟩⟩;have hc0:Qk ty Wg C n [] (· =ix i) W W':=⟨fA hac.size.symm,hac.tape,hac.os,λb _ _ hbC _=>hac.block b hbC,λx hx=>hac.cells x hx,hac.pay,λ⟨a,b,x⟩=>⟨a,b,x.of_block (hac.block Wg (dE sJ.gm.hCW))⟩⟩;have I9:=hc0.ro (B:=B) (l:=ow i) (Cl:=λ_=>False) sJ.gm.hB aA (λb A8=>⟨aA,(sJ.gm.own i hi b A8).2,aw8,aw7⟩) (λ_=>False.elim)
   have acE:∀e∈es,∀x,(MemAct.ofEvent e).touch?=some x->ShN Wg x.loc/\x.kind≠.plain/\x.kind≠.said:=by
    intro e he x hx;rcases((hev e he).1 0 "").2 x hx with h1|h1|h1
    .exact h1
    .exact h1.elim
    .exact h1.1.elim
   refine PQ hb ha QM sJ F_ IG hN L_ hi hg hgo hc (by rw[hfr,dX];exact .lib (.r0 um) (λ_=>by have:=h23 rfl;omega) (hb.wp _ _ _ _ I9 hwp) (λh=>ag)) (λop uZ=>?_) (λe he x hx=>⟨λad ead=>?_,λ_=>(acE e he x hx).1,by obtain⟨⟨a',e',_⟩,_⟩:=acE e he x hx;rw[e'];rfl⟩) (λe he=>(hev e he).2.2.2)
    (by rw[hde];exact deafBehind_idle (λe he=>⟨(hev e he).2.1,(hev e he).2.2.1⟩) 0) (λh=>ag) (wV.of_block (hac.block Wg (dE sJ.gm.hCW)))
    (λ_ ht _=>ConcN.Mode.retag (by have:=qV.same (i:=i) m' 0;rwa[uw]at this) ht) (λe=>absurd e (nr ag)) (.inr ⟨uw.symm,ag⟩)
   .obtain⟨e,he,rfl⟩:=Go.Conc.mem_ofEvents uZ;exact⟨rfl,λx hx=>.inl ⟨.inl (acE e he x hx).1,(acE e he x hx).2⟩⟩
   .obtain⟨⟨a',e',hbW⟩,_⟩:=acE e he x hx;rw[ead]at e';obtain rfl:=fG e';rw[hac.size,hbW];exact hWs
 |k1 h=>
  rcases Goes.cases h with sQ|⟨m',rfl,qU⟩
  .obtain⟨_,g',hgo,m₂,hk⟩:=sQ W (RW.refl W)
   exact book hgo (.refl Wg W) wV (by intro e he;simp at he;subst he;exact .inl rfl) (by intro jx e he;exact .inl (by have:=fJ he;simp at this;subst this;rfl)) (.d1 hk) ag rfl ag
    (qV.counted hi ag (.inr rfl) _ _) (λe=>absurd e (nr ag)) (.inl ⟨ag,by simp[cnt,uw]⟩)
  .obtain⟨g',W',es,hgo,⟨rfl,rfl⟩,um⟩:=qU W (RW.refl W);exact idle hgo (.k1 um) rfl ag ag
 |d1 h=>
  rcases Goes.cases h with sQ|⟨m',rfl,qU⟩
  .obtain⟨_,xg⟩:=sQ W (RW.refl W);have V5:cnt (D i)=1:=by simp[cnt,uw]
   have hV1:1<=Vc j D:=by have:=le_sumTo (f:=λx=>cnt (D x)) hi;simp only[Vc];omega
   have df2:∀jx e,(#[rd (stA Wg),wr (stA Wg)]:aN)[jx]?=some e->(MemAct.ofEvent e).touch?=none\/0<deafBehind 1 ((#[rd (stA Wg),wr (stA Wg)]:aN).extract 0 jx):=by
    intro jx e he
    match jx,he with
    |0,_=>exact .inr avd
    |1,_=>exact .inr (by simp[deafBehind,rd])
    |jx+2,he=>simp at he
   have hq0:∀q,cnt (⟨1,q,1⟩:WD)=0:=λ_=>rfl
   have opq:∀q,OpenSt j D->OpenSt j (upd D i ⟨1,q,1⟩):=λq h a ha=>by
    by_cases e:a=i
    .subst e;rw[upd_same];simp
    .rw[upd_ne D _ e];exact h a ha
   cases qV with
   |opn h1 h2 h3=>
    obtain⟨u,hu⟩:∃u,Vc j D+pend tag=u+1:=⟨Vc j D+pend tag-1,ag⟩;rw[hu]at wV;have E8:WgAt ty Wg W (((u:Nat)+1)*KK+((0:Nat):Int)) 0:=nP;obtain⟨g',hgo,_,hq⟩:=xg u 0 ag ag E8;obtain⟨q,hq⟩:=hq ag;have hv':Vc j (upd D i ⟨1,q,1⟩)+pend tag=u:=aw3;refine book hgo (aside_setCell W (stA Wg) _) (wV.setSt _) bk_rw df2 (.quit hq) ag rfl ag ?_ (λe=>absurd e (nr ag)) (.inl ⟨ag,mf⟩);have e:((u:Nat):Int)*KK+((0:Nat):Int)=((Vc j (upd D i ⟨1,q,1⟩)+pend tag:Nat):Int)*KK:=by rw[hv'];simp
    rw[e];exact .opn h1 (opq q h2) (λvs ev=>by have:=h3 vs ev;omega)
   |reg h1 h2 h3=>
    obtain⟨u,hu⟩:∃u,Vc j D=u+1:=⟨Vc j D-1,ag⟩;rw[hu]at wV;have E8:WgAt ty Wg W (((u:Nat)+1)*KK+((1:Nat):Int)) 0:=nP;obtain⟨g',hgo,hl,hq⟩:=xg u 1 ag ag E8;by_cases hv0:u=0
    .subst hv0;obtain⟨m₂,hk⟩:=hl ⟨rfl,rfl⟩;refine book hgo (aside_setCell W (stA Wg) _) (wV.setSt _) bk_rw df2 (.d2 hk) ag rfl ag ?_ (λe=>absurd e (nr ag)) (.inl ⟨ag,mf⟩)
     have aey:∀a,a<j->a≠i->(D a).stage=1:=λa ha e=>by have c0:=others_uncounted hi hu V5 a ha e;have:=h2 a ha;simp only[cnt]at c0;split at c0<;>omega
     have:=ConcN.Mode.last (j:=j) (D:=upd D i ⟨4,m₂,1⟩) (tag:=tag) i h1 hi avl (λa ha e=>avm);exact axE
    .obtain⟨q,hq⟩:=hq ag;have hv':Vc j (upd D i ⟨1,q,1⟩)=u:=aw3;refine book hgo (aside_setCell W (stA Wg) _) (wV.setSt _) bk_rw df2 (.quit hq) ag rfl ag ?_ (λe=>absurd e (nr ag)) (.inl ⟨ag,mf⟩);have e:((u:Nat):Int)*KK+((1:Nat):Int)=((Vc j (upd D i ⟨1,q,1⟩):Nat):Int)*KK+1:=by rw[hv'];simp
     rw[e];exact .reg h1 (opq q h2) ag
   |last L _ h2 h3 h4=>
    by_cases e:i=L
    .subst e;omega
    .have:=h4 i hi e;omega
   |sema h2=>have:=h2 i hi;omega
   |fin _ h2=>have:=h2 i hi;omega
  .obtain⟨g',W',es,hgo,⟨rfl,rfl⟩,um⟩:=qU W (RW.refl W);exact idle hgo (.d1 um) rfl ag ag
 |d2 h=>
  rcases Goes.cases h with sQ|⟨m',rfl,qU⟩
  .obtain⟨_,hx⟩:=sQ W (RW.refl W);obtain⟨hW3,aey,rfl,rfl⟩:=qV.isLast hi ag;simp only[uw]at wV;obtain⟨g',hgo,m₂,hk⟩:=hx nP;refine book hgo (.refl Wg W) wV bk_rd (by intro jx e he;match jx,he with|0,_=>exact .inr avd|jx+1,he=>simp at he) (.d3 hk) ag rfl ag ?_ (λe=>absurd e (nr ag)) (.inl ⟨ag,mf⟩);have:=ConcN.Mode.last (j:=j) (D:=upd D i ⟨3,m₂,1⟩) (tag:=tag) i hW3 hi avl (λa ha e=>avm);exact axE
  .obtain⟨g',W',es,hgo,⟨rfl,rfl⟩,um⟩:=qU W (RW.refl W);exact idle hgo (.d2 um) rfl ag ag
 |d3 h=>
  rcases Goes.cases h with sQ|⟨m',rfl,qU⟩
  .obtain⟨_,hx⟩:=sQ W (RW.refl W);obtain⟨hW3,aey,rfl,rfl⟩:=qV.isLast hi ag;simp only[uw]at wV;obtain⟨g',hgo,m₂,hk⟩:=hx nP;refine book hgo (aside_setCell W (stA Wg) _) (wV.setSt 0) (by intro e he;simp at he;subst he;exact bk_cell _ _ rfl) (by intro jx e he;match jx,he with|0,_=>exact .inr avd|jx+1,he=>simp at he) (.d4 hk) ag rfl ag ?_ (λe=>absurd e (nr ag)) (.inl ⟨ag,mf⟩);have:=ConcN.Mode.last (j:=j) (D:=upd D i ⟨2,m₂,1⟩) (tag:=tag) i hW3 hi avl (λa ha e=>avm);exact axE
  .obtain⟨g',W',es,hgo,⟨rfl,rfl⟩,um⟩:=qU W (RW.refl W);exact idle hgo (.d3 um) rfl ag ag
 |d4 h=>
  rcases Goes.cases h with sQ|⟨m',rfl,qU⟩
  .obtain⟨_,hmw,hx⟩:=sQ W (RW.refl W);obtain⟨hW3,aey,rfl,rfl⟩:=qV.isLast hi ag;simp only[uw]at wV;obtain⟨g',hgo,q,hq⟩:=hx nP
   have EU:g'.status=.running:=by
    cases q with
    |zero=>exact absurd hq.2 aB
    |succ q=>exact hq.elim (λx=>absurd x.2 aB) (λx=>x.1)
   refine bookG hgo (aside_setCell W (smA Wg) _) (wV.setSm 1) (es:=semEvents (smA Wg)) bk_sem ?_ (.quit hq) ag apM ag ?_ (λe=>absurd e (nr ag)) (.inl ⟨ag,mf⟩)
   .intro jx e he
    match jx,he with
    |0,he=>simp[semEvents]at he;subst he;exact .inl rfl
    |1,_=>exact .inr apM
    |2,_=>exact .inr apM
    |3,he=>simp[semEvents]at he;subst he;exact .inl rfl
    |jx+4,he=>simp[semEvents]at he
   .intro tag' ht hw;have hnb:=hw hmw EU
    have e3:tag'=.w3:=by
     rcases ht with rfl|⟨_,rfl⟩
     .cases tag'<;>first|rfl|exact hW3.elim|exact absurd rfl hnb
     .rfl
    subst e3;simp only[aY]
    exact .sema λa ha=>by
     by_cases e:a=i
     .subst e;rw[upd_same]
     .rw[upd_ne D _ e];exact aey a ha e
  .obtain⟨g',W',es,hgo,⟨rfl,rfl⟩,um⟩:=qU W (RW.refl W);exact idle hgo (.d4 um) rfl ag ag
 |quit h=>
  cases m with
  |zero=>rw[h.1]at r_;cases r_
  |succ q=>
   rcases h with⟨hf,_⟩|⟨_,g',es,anJ,qU,hq⟩
   .rw[hf]at r_;cases r_
   .have Jg:∀e∈es,Bk Wg e:=λe he=>bk_of_mute (anJ e he)
    have PK:∀jx e,es[jx]?=some e->(MemAct.ofEvent e).touch?=none\/0<deafBehind dd (es.extract 0 jx):=λjx e he=>.inl (touch_mute (anJ e (fJ he)))
    refine book (qU W) (.refl Wg W) wV Jg PK (.quit hq) ag rfl ag (by have:=qV.same (i:=i) q (deafBehind dd es);rwa[uw]at this) (λe=>(DL e).app λi' r _ IC hr=>?_) (.inr ⟨rfl,ag⟩);by_cases e':i'=i
    .subst e';exact hr.book hdk _ _ Jg PK
    .exact hr.appOther g_of_ofEvents ag
end
end Go.Gh
namespace Go.Gh
open Go.Conc Go.ConcN
open Go.ConcR (KK WgAt stA smA rd wr mk Payload DC0 g_of_ofEvents Bk ofEvent_loc_mark ofEvent_cell ofEvent_mk)
variable [Payload][qR][rJ][yV]
section
variable {P:aP}{ty:aG}{Wg C n B:Nat}{M:Nat->Prop}{WP:Nat->ai->ah->Prop}{K:aC->aI->ah->Prop}{N:Nat}
 {gs:dD} {W W':ah} {sl:Option (Nat×Nat)} {j:Nat} {D:Nat->WD} {ix:Nat->Nat} {ow:Nat->aC} {tag:CTag} {r f0 d0:Nat} {a:aI} {t:Trace} {st sm:Int} {l0 ids:aC}
omit [Payload][qR][rJ][yV]in
theorem Rl{b:Addr}{wr:Bool}{x:Touch}(hx:(MemAct.ofEvent ⟨.cell b,wr,false⟩).touch?=some x):x.loc=.cell b/\x.write=wr:=by rw[ofEvent_cell]at hx;simp only[MemAct.touch?,gW]at hx;subst hx;exact⟨rfl,rfl⟩
theorem stepW(hb:PN Wg C n B M WP K)(Wh:N<2147483648)(ha:gs[0]?=some a)(QM:MS P ty Wg C n B M WP K ids l0 tag r f0 d0 a W)(sJ:Cm P ty Wg C n B M WP j gs W t D ix ow l0 d0)
  (wV:WgAt ty Wg W st sm) (qV:ConcN.Mode j D tag st sm) (DL:tag=.ret->NJ Wg j t) (F_:∀i,rJ.el<=i->i<j->ix i∈ids) (IG:∀x∈ids,∃i,rJ.el<=i/\i<j/\ix i=x) (hN:j+r=N) (ajE:j+pend tag<=N)
  {i:Nat} (L_:rJ.el<=i) (hi:i<j) {g:aI} (hg:gs[i+1]?=some g) (r_:g.status=.running):
  ∃m₁ ops μ',runT P (crowd gs W sl) (i+1)=(.next m₁,ops)/\Lt2 μ' (phi N (Vc j D) tag+Ssum j D,f0+2*Fsum j D)/\Iv P ty Wg C n B M WP K N μ' m₁ (t++ops):=by
 obtain⟨g₁,hg₁,hs⟩:=sJ.wk i L_ hi;obtain rfl:g=g₁:=by rw[hg]at hg₁;exact gu hg₁
 generalize uw:(D i).stage=s at hs;generalize hfu:(D i).fuel=m at hs;generalize hde:(D i).deaf=dd at hs;cases hs with
 |lib h1 h2 h3 h4=>exact aff hb Wh ha QM sJ wV qV DL F_ IG hN ajE L_ hi hg r_ h1 h2 h3 h4 uw ag hde
 |comp h=>
  rename_i m;have I9:=Il (Wg:=Wg) (C:=C) (n:=n) (B:=B) W (ow i) (· =ix i);rcases Goes.cases h with sQ|⟨m',rfl,qU⟩
  .obtain⟨_,v,hwp,apH,hG⟩:=sQ _ I9;exact aff hb Wh ha QM sJ wV qV DL F_ IG hN ajE L_ hi hg r_ (.r0 (hG W ⟨_,_,wV⟩ apH)) (λ_=>ay _) hwp (λh=>ag) uw ag hde
  .obtain⟨g',w',es,hgo,hD,um⟩:=qU _ I9;obtain⟨apI,apJ⟩:=Ik P (book W.heap.size (ow i)) (w:=W) hgo;have hWs:Wg<W.heap.size:=bH sJ.gm.hW sJ.gm.hB;have ajG:Wg∉ow i:=λhx=>by have:=(sJ.gm.own i hi _ hx).1;have:=sJ.gm.hW;omega
   have hc:Qk ty Wg C n (ow i) (· =ix i) W (w'.out W.output):=hD.chg rfl ajG hWs sJ.gm.hCW;have ao5:Ro Wg C n B (· =ix i) w' (gw (w'.out W.output) (ow i++fresh W.heap.size (w'.out W.output).heap.size)):=ajz rfl apJ;have tr:∀a b c,Ro Wg C n B (· =ix i) a b->Ro Wg C n B (· =ix i) b c->Ro Wg C n B (· =ix i) a c:=λ_ _ _ a b=>Ro.trans a b
   have L9:WgAt ty Wg (w'.out W.output) st sm:=by exact ayz
   have hdf:deafBehind (D i).deaf es=0:=by rw[hde];exact deafBehind_idle (λe he=>by obtain⟨b,wr,rfl,_,_⟩:=hD.evs e he;exact⟨aA,aA⟩) 0
   refine PQ hb ha QM sJ F_ IG hN L_ hi hg apI hc (.comp (m:=m') (dF tr um ao5)) (λop uZ=>?_) (λe he=>?_) (λe he=>?_) hdf (λh=>ag) L9
    (λ_ ht _=>ConcN.Mode.retag (by have:=qV.same (i:=i) (m'+24) 0;rwa[uw]at this) ht) (λe=>absurd e (qV.not_ret hi ag)) (.inr ⟨uw.symm,ag⟩)
   .obtain⟨e,he,rfl⟩:=Go.Conc.mem_ofEvents uZ;obtain⟨b,wr,rfl,qB,ak3⟩:=hD.evs e he;refine⟨rfl,λx hx=>?_⟩;obtain⟨hl,hw⟩:=Rl hx;rw[hl,hw];rcases ak3 with h1|h1|⟨i',rfl,h1⟩|⟨h1,h2,h3,h4,h5⟩
    .rw[yU]at h1;exact .inr (.inl ⟨ag,ag,b,rfl,.inl (by rw[iK,upd_same];exact auR _ h1)⟩)
    .exact .inr (.inl ⟨ag,ag,b,rfl,.inl (by rw[iK,upd_same];exact List.mem_append_right _ (DY.2 ⟨h1,qB⟩))⟩)
    .exact .inr (.inl ⟨ag,ag,_,rfl,.inr (by rw[iK,h1])⟩)
    .exact .inr (.inr ⟨⟨ag,b,rfl,h1,h2,h3,h5⟩,h4⟩)
   .exact ax3
   .obtain⟨b,wr,rfl,_,_⟩:=hD.evs e he;simp
theorem Zw(hb:PN Wg C n B M WP K)(ha:gs[0]?=some a)(sJ:Cm P ty Wg C n B M WP j gs W t D ix ow l0 d0)(F_:∀i,rJ.el<=i->i<j->ix i∈ids)(IG:∀x∈ids,∃i,rJ.el<=i/\i<j/\ix i=x)(hN:j+r=N)
  {a':aI} {es:aN} {tag':CTag} {f' dd:Nat} {st' sm':Int} (hgo:stepG P true a W=.go a' W' es) (hc:Qk ty Wg C n l0 (λi=>¬M i) W W')
  (L8:∀op∈MemOp.ofEvents 0 a.frame.fn a.frame.place es,Ok0 (KZ Wg) (Wv C j ix ow) (RdF Wg C B) j op) (vU:∀e∈es,Vf Wg W'.heap.size (MemAct.ofEvent e)) (hnr:∀e∈es,e.loc≠.mark (.release (stA Wg)))
  (hdd:deafBehind d0 es=dd) (JI:MS P ty Wg C n B M WP K ids (l0++fresh W.heap.size W'.heap.size) tag' r f' dd a' W') (wV:WgAt ty Wg W' st' sm') (qV:ConcN.Mode j D tag' st' sm')
  (DL:tag'=.ret->NJ Wg j (t++MemOp.ofEvents 0 a.frame.fn a.frame.place es))
  (qB:phi N (Vc j D) tag'<phi N (Vc j D) tag\/(phi N (Vc j D) tag'=phi N (Vc j D) tag/\f'<f0)):
  ∃m₁ ops μ',runT P (crowd gs W sl) 0=(.next m₁,ops)/\Lt2 μ' (phi N (Vc j D) tag+Ssum j D,f0+2*Fsum j D)/\Iv P ty Wg C n B M WP K N μ' m₁ (t++ops):=by
 subst hdd;have r_:=runT_crowd_go (P:=P) (sl:=sl) (i:=0) ha (by simpa using hgo);refine⟨_,_,(phi N (Vc j D) tag'+Ssum j D,f'+2*Fsum j D),r_,?_,_,W',sl,j,D,ix,ow,tag',r,f',_,a',st',sm',_,ids,rfl,get_map_set_same _ _ _ (by rw[sJ.size];omega),JI,sJ.step0 hb.wp hc L8 vU hnr (aby hgo),wV,qV,DL,F_,IG,hN,rfl⟩;rcases qB with h|⟨h1,h2⟩
 .exact Prod.Lex.left _ _ ag
 .rw[h1];exact Prod.Lex.right _ ag
theorem Vg(hb:PN Wg C n B M WP K)(ha:gs[0]?=some a)(sJ:Cm P ty Wg C n B M WP j gs W t D ix ow l0 0)(wV:WgAt ty Wg W st sm)(qV:ConcN.Mode j D tag st sm)(F_:∀i,rJ.el<=i->i<j->ix i∈ids)(IG:∀x∈ids,∃i,rJ.el<=i/\i<j/\ix i=x)(hN:j+r=N)(hne:tag≠.ret)
  {Stop:aI->ah->Prop} {m':Nat} (qU:∀w₁,Ro Wg C n B (λi=>¬M i) (gw W l0) w₁->∃g' w' es,stepG P true a w₁=.go g' w' es/\Dg Wg C n B (λi=>¬M i) w₁ w' es/\Goes P true (Ro Wg C n B (λi=>¬M i)) (Dg Wg C n B (λi=>¬M i)) Stop m' g' w')
  (JI:∀{g':aI}{W':ah}{l:aC},Goes P true (Ro Wg C n B (λi=>¬M i)) (Dg Wg C n B (λi=>¬M i)) Stop m' g' (gw W' l)->MS P ty Wg C n B M WP K ids l tag r m' 0 g' W') (hf:m'<f0):
  ∃m₁ ops μ',runT P (crowd gs W sl) 0=(.next m₁,ops)/\Lt2 μ' (phi N (Vc j D) tag+Ssum j D,f0+2*Fsum j D)/\Iv P ty Wg C n B M WP K N μ' m₁ (t++ops):=by
 obtain⟨g',w',es,hgo,hD,um⟩:=qU _ (Il W l0 _);obtain⟨apI,apJ⟩:=Ik P (book W.heap.size l0) (w:=W) hgo;have hWs:Wg<W.heap.size:=bH sJ.gm.hW sJ.gm.hB;have ajG:Wg∉l0:=λhx=>by have:=(sJ.gm.Fa _ hx).1;have:=sJ.gm.hW;omega
 have hc:Qk ty Wg C n l0 (λi=>¬M i) W (w'.out W.output):=hD.chg rfl ajG hWs sJ.gm.hCW;have ao5:Ro Wg C n B (λi=>¬M i) w' (gw (w'.out W.output) (l0++fresh W.heap.size (w'.out W.output).heap.size)):=ajz rfl apJ;have tr:∀a b c,Ro Wg C n B (λi=>¬M i) a b->Ro Wg C n B (λi=>¬M i) b c->Ro Wg C n B (λi=>¬M i) a c:=λ_ _ _ a b=>Ro.trans a b
 have L9:WgAt ty Wg (w'.out W.output) st sm:=by exact ayz
 refine Zw hb ha sJ F_ IG hN apI hc (λop uZ=>?_) (λe he=>?_) (λe he=>?_) (deafBehind_idle (λe he=>?_) 0) (JI (dF tr um ao5)) L9 qV (λe=>absurd e hne) (.inr ⟨rfl,hf⟩)
 .obtain⟨e,he,rfl⟩:=Go.Conc.mem_ofEvents uZ;obtain⟨b,wr,rfl,qB,ak3⟩:=hD.evs e he;refine⟨rfl,λx hx=>.inr ?_⟩;obtain⟨hl,hw⟩:=Rl hx;rw[hl,hw];have hB:=sJ.gm.hB;have hWB:=sJ.gm.hW;have hCB:=sJ.gm.hC;rcases ak3 with h1|h1|⟨i',rfl,h1⟩|⟨h1,h2,h3,h4,h5⟩
  .rw[yU]at h1;have xH:=sJ.gm.Fa _ h1;refine⟨Zu ag (λho=>by have:=sJ.gm.old _ ho;omega),λk k1 kj ⟨_,_,b',e',hz⟩=>?_,λ_ k k1 kj ⟨_,b',e',z1,z2,z3,_⟩=>?_⟩
   .obtain rfl:=fG e';rcases hz with hz|hz
    .exact sJ.gm.abw (k-1) _ ag hz h1
    .rw[hz]at xH;dsimp only at xH;omega
   .obtain rfl:=fG e';omega
  .have h1':W.heap.size<=b.block:=h1;refine⟨Zu ag (λho=>by have:=sJ.gm.old _ ho;omega),λk k1 kj ⟨_,_,b',e',hz⟩=>?_,λ_ k k1 kj ⟨_,b',e',z1,z2,z3,_⟩=>?_⟩
   .obtain rfl:=fG e';have:W.heap.size<=b.block:=h1;rcases hz with hz|hz
    .have:=sJ.gm.own (k-1) ag _ hz;omega
    .rw[hz]at this;exact axs
   .obtain rfl:=fG e';have:W.heap.size<=b.block:=h1;omega
  .refine⟨Zu sJ.gm.hCW (λho=>(sJ.gm.old _ ho).2 rfl),λk k1 kj ⟨_,_,b',e',hz⟩=>?_,λ_ k k1 kj ⟨_,b',e',z1,z2,z3,_⟩=>?_⟩
   .obtain rfl:=fG e';rcases hz with hz|hz
    .have:=sJ.gm.own (k-1) ag _ hz;exact axs
    .have e2:i'=ix (k-1):=by injection hz
     exact h1 (e2▸sJ.gm.ixM (k-1) ag ag)
   .obtain rfl:=fG e';exact z3 rfl
  .refine⟨Zu h2 h5,λk k1 kj ⟨_,_,b',e',hz⟩=>?_,λRU=>by rw[h4]at RU;cases RU⟩
   .obtain rfl:=fG e';rcases hz with hz|hz
    .have:=sJ.gm.own (k-1) ag _ hz;omega
    .rw[hz]at h3;exact h3 rfl
 .exact ax3
 .obtain⟨b,wr,rfl,_,_⟩:=hD.evs e he;simp
 .obtain⟨b,wr,rfl,_,_⟩:=hD.evs e he;exact⟨aA,aA⟩
end
end Go.Gh
namespace Go.Gh
open Go.Conc Go.ConcN
open Go.ConcR (KK WgAt stA smA rd wr mk Payload DC0 g_of_ofEvents Bk ofEvent_loc_mark ofEvent_cell ofEvent_mk)
variable [Payload][qR][rJ][yV]
section
variable {P:aP}{ty:aG}{Wg C n B:Nat}{M:Nat->Prop}{WP:Nat->ai->ah->Prop}{K:aC->aI->ah->Prop}{N:Nat}
 {gs:dD} {W W':ah} {sl:Option (Nat×Nat)} {j:Nat} {D:Nat->WD} {ix:Nat->Nat} {ow:Nat->aC} {tag tag':CTag} {r f0 f' d0 dd:Nat} {a a':aI} {t:Trace} {st sm st' sm':Int} {l0 ids:aC} {es:aN}
def Vh(P:aP)(ty:aG)(Wg C n B:Nat)(M:Nat->Prop)(WP:Nat->ai->ah->Prop)(K:aC->aI->ah->Prop)(N:Nat)(gs:dD)(W:ah)(sl:Option (Nat×Nat))(t:Trace)(μ:Nat×Nat):Prop:=
 ∃m₁ ops μ',runT P (crowd gs W sl) 0=(.next m₁,ops)/\Lt2 μ' μ/\Iv P ty Wg C n B M WP K N μ' m₁ (t++ops)
theorem Vh.mono{μ μ':Nat×Nat}(h:Vh P ty Wg C n B M WP K N gs W sl t μ)(hl:Lt2 μ μ'):Vh P ty Wg C n B M WP K N gs W sl t μ':=
 let⟨m₁,ops,ν,h1,h2,h3⟩:=h;⟨m₁,ops,ν,h1,lt2_trans h2 hl,h3⟩
structure XL(P:aP)(ty:aG)(Wg C n B:Nat)(M:Nat->Prop)(WP:Nat->ai->ah->Prop)(K:aC->aI->ah->Prop)(N j r:Nat)(gs:dD)(W:ah)(t:Trace)(D:Nat->WD)(ix:Nat->Nat)(ow:Nat->aC)(l0 ids:aC)(d0:Nat)(a:aI)(st sm:Int):Prop where
 hb:PN Wg C n B M WP K
 Wh:N<2147483648
 ha:gs[0]?=some a
 sJ:Cm P ty Wg C n B M WP j gs W t D ix ow l0 d0
 wV:WgAt ty Wg W st sm
 F_:∀i,rJ.el<=i->i<j->ix i∈ids
 IG:∀x∈ids,∃i,rJ.el<=i/\i<j/\ix i=x
 hN:j+r=N
theorem XL.hWs(h:XL P ty Wg C n B M WP K N j r gs W t D ix ow l0 ids d0 a st sm):Wg<W.heap.size:=bH h.sJ.gm.hW h.sJ.gm.hB
theorem XL.ro(h:XL P ty Wg C n B M WP K N j r gs W t D ix ow l0 ids d0 a st sm)(hAs:Aside Wg W W')(hl:WgLive ty Wg W'):Ro Wg C n B (λi=>¬M i) (gw W l0) (gw W' l0):=
 (Qk.of_wg (n:=n) (lo:=[]) (Cm:=λ_=>False) hAs hl h.sJ.gm.hCW).ro h.sJ.gm.hB aA (λb A8=>⟨aA,(h.sJ.gm.Fa b A8).2,by have:=(h.sJ.gm.Fa b A8).1;have:=h.sJ.gm.hC;omega,by have:=(h.sJ.gm.Fa b A8).1;have:=h.sJ.gm.hW;omega⟩) (λ_ _=>id)
theorem XL.bkp(h:XL P ty Wg C n B M WP K N j r gs W t D ix ow l0 ids d0 a st sm)(hgo:stepG P true a W=.go a' W' es)(hAs:Aside Wg W W')(L9:WgAt ty Wg W' st' sm')(Jg:∀e∈es,Bk Wg e)(hdd:deafBehind d0 es=dd)
  (JI:MS P ty Wg C n B M WP K ids l0 tag' r f' dd a' W') (IK:ConcN.Mode j D tag' st' sm') (hne:tag'≠.ret) (qB:phi N (Vc j D) tag'<phi N (Vc j D) tag\/(phi N (Vc j D) tag'=phi N (Vc j D) tag/\f'<f0)):
  Vh P ty Wg C n B M WP K N gs W sl t (phi N (Vc j D) tag+Ssum j D,f0+2*Fsum j D):=
 Zw h.hb h.ha h.sJ h.F_ h.IG h.hN hgo (Qk.of_wg hAs ⟨_,_,L9⟩ h.sJ.gm.hCW) (ao4 Jg) (ajD Jg (by rw[hAs.size];exact h.hWs)) (norel_of_Bk Jg) hdd
  (by rw[hAs.size,ED,dX];exact JI) L9 IK (λe=>absurd e hne) qB
theorem XL.say(h:XL P ty Wg C n B M WP K N j r gs W t D ix ow l0 ids d0 a st sm){e:Event}(hgo:stepG P true a W=.go a' W #[e])(ht:∀x,(MemAct.ofEvent e).touch?=some x->∃ad:Addr,x.loc=.cell ad/\ad.block=Wg/\x.kind=.said)
  (hne:e.loc≠.mark .disable/\e.loc≠.mark .enable/\e.loc≠.mark (.release (stA Wg)))
  (JI:MS P ty Wg C n B M WP K ids l0 tag' r f' d0 a' W) (IK:ConcN.Mode j D tag' st sm) (DL:tag'=.ret->NJ Wg j (t++MemOp.ofEvents 0 a.frame.fn a.frame.place #[e]))
  (qB:phi N (Vc j D) tag'<phi N (Vc j D) tag\/(phi N (Vc j D) tag'=phi N (Vc j D) tag/\f'<f0)):
  Vh P ty Wg C n B M WP K N gs W sl t (phi N (Vc j D) tag+Ssum j D,f0+2*Fsum j D):=by
 refine Zw h.hb h.ha h.sJ h.F_ h.IG h.hN hgo (.refl W) (λop uZ=>?_) (λe' LM=>?_) (λe' LM=>?_) (deafBehind_idle (λe' LM=>?_) d0)
  awN h.wV IK DL qB
 .obtain⟨e',LM,rfl⟩:=Go.Conc.mem_ofEvents uZ;obtain rfl:e'=e:=pX;refine⟨rfl,λx hx=>.inl ?_⟩;obtain⟨ad,h1,h2,h3⟩:=ht x hx;exact⟨.inl ⟨ad,h1,h2⟩,by rw[h3];simp⟩
 .obtain rfl:e'=e:=pX;intro x hx;obtain⟨ad,h1,h2,h3⟩:=ht x hx;refine⟨λad' e1=>?_,λe1=>(by rw[h3]at e1;cases e1),by rw[h1];rfl⟩;rw[h1]at e1;obtain rfl:=fG e1;rw[h2];exact h.hWs
 .obtain rfl:e'=e:=pX;exact hne.2.2
 .obtain rfl:e'=e:=pX;exact⟨hne.1,hne.2.1⟩
theorem XL.idle(h:XL P ty Wg C n B M WP K N j r gs W t D ix ow l0 ids d0 a st sm)(hgo:stepG P true a W=.go a' W #[])(JI:MS P ty Wg C n B M WP K ids l0 tag r f' d0 a' W)(qV:ConcN.Mode j D tag st sm)
  (DL:tag=.ret->NJ Wg j t) (hf:f'<f0):Vh P ty Wg C n B M WP K N gs W sl t (phi N (Vc j D) tag+Ssum j D,f0+2*Fsum j D):=by
 refine Zw h.hb h.ha h.sJ h.F_ h.IG h.hN hgo (.refl W) (λop uZ=>?_) aA aA rfl awN h.wV qV (λe=>(DL e).app λi r _ _ hr=>hr.appOther g_of_ofEvents ag) (.inr ⟨rfl,hf⟩);obtain⟨e',LM,rfl⟩:=Go.Conc.mem_ofEvents uZ;simp at LM
theorem XL.kd1{m mm:Nat}{gT:aI}(h:XL P ty Wg C n B M WP K N j (r+1) gs W t D ix ow l0 ids 0 a st sm)(qV:ConcN.Mode j D (.sp (r+1) 6) st sm)(hG:Goes P true (RL ty Wg) DC0 (AKd P ty Wg gT) m a W)
  (h0:Goes P true (Ro Wg C n B (λi=>¬M i)) (Dg Wg C n B (λi=>¬M i)) (AtGo P ty Wg C n B M WP (Sp P ty Wg C n B M WP K r) ids) mm gT (gw W l0)):
  Vh P ty Wg C n B M WP K N gs W sl t (phi N (Vc j D) (.sp (r+1) 6)+Ssum j D,m+2*Fsum j D):=by
 rcases Goes.cases hG with sQ|⟨m',rfl,qU⟩
 .obtain⟨_,a',hgo,m₂,hk⟩:=sQ W (BO ty Wg W);exact h.bkp hgo (.refl Wg W) h.wV bk_dis rfl (.a1 hk h0) (qV.reopen trivial trivial rfl aA) aA (.inl eX)
 .obtain⟨a',w',es,hgo,⟨rfl,rfl⟩,um⟩:=qU W (BO ty Wg W);exact h.idle hgo (.kd1 um h0) qV aA ag
theorem XL.c2{m:Nat}(h:XL P ty Wg C n B M WP K N j (r+1) gs W t D ix ow l0 ids 0 a st sm)(qV:ConcN.Mode j D (.sp (r+1) 1) st sm)
  (h0:Goes P true (Ro Wg C n B (λi=>¬M i)) (Dg Wg C n B (λi=>¬M i)) (AtGo P ty Wg C n B M WP (Sp P ty Wg C n B M WP K r) ids) m a (gw W l0)):
  Vh P ty Wg C n B M WP K N gs W sl t (phi N (Vc j D) (.sp (r+1) 1)+Ssum j D,m+2*Fsum j D):=by
 rcases Goes.cases h0 with sQ|⟨m',rfl,qU⟩
 .obtain⟨_,a',child,idx,l,hsp,_,hid,hM,hl,⟨m₂,hwk⟩,qZ⟩:=sQ _ (Il W l0 _);obtain⟨as5,_⟩:=SA P (book W.heap.size l0) (w:=W) hsp;have apK:stepG P true a W=.spawn a' child W #[]:=as5;obtain⟨ho,rfl,rfl,_⟩:=qV.open_inv trivial;have TM:∀b∈l,b∈l0:=λb A8=>(yU W l0 b).1 (hl b A8)
  have hl0:∀b,b∈l0.filter (λb=>decide (b∉l))↔b∈l0/\b∉l:=λb=>aA
  have Nh:=qZ (l0.filter (λb=>decide (b∉l))) (λb=>by rw[yU];exact hl0 b);have aqQ:Sp P ty Wg C n B M WP K r (idx::ids) a' (gw W (l0.filter (λb=>decide (b∉l)))):=Nh;have EU:=runT_crowd_spawn (P:=P) (sl:=sl) (i:=0) h.ha (by simpa using apK);rw[h.sJ.size]at EU
  have acC:=h.sJ.spawn (a':=a') (x:={g:=0,fn:=a.frame.fn,pos:=a.frame.place,act:=.go (j+1)}) (y:={g:=j+1,fn:=child.frame.fn,pos:=a.frame.place,act:=.start}) ⟨rfl,rfl⟩ ⟨rfl,rfl⟩
   TM hl0 (λi L_ hi e=>hid (by rw[<-(show ix i=idx from e)];exact h.F_ i L_ hi)) hM (show Wk P ty Wg C n B WP idx m₂ child (gw W l)from hwk)
  have eV:Vc (j+1) (upd D j ⟨7,m₂+24,0⟩)=Vc j D+1:=by simp only[Vc,sumTo,upd_same];rw[sumTo_upd_out D _ cnt (ay _)];rfl
  have eS:Ssum (j+1) (upd D j ⟨7,m₂+24,0⟩)=Ssum j D+7:=by simp only[Ssum,sumTo,upd_same];rw[sumTo_upd_out D _ WD.stage (ay _)]
  have ho':OpenSt (j+1) (upd D j ⟨7,m₂+24,0⟩):=λi hi=>by
   by_cases e:i=j
   .subst e;rw[upd_same];simp
   .rw[upd_ne D _ e];exact ho i ag
  have ha':((gs.setIfInBounds 0 a').push child)[0]?=some a':=by rw[au2 (by simp[h.sJ.size]),<-pV];simp[h.sJ.size]
  have aqR:∀i,rJ.el<=i->i<j+1->upd ix j idx i∈idx::ids:=λi L_ hi=>by
   by_cases e:i=j
   .subst e;rw[upd_same];simp
   .rw[upd_ne ix _ e];exact nH _ (h.F_ i L_ ag)
  have aqS:∀x∈idx::ids,∃i,rJ.el<=i/\i<j+1/\upd ix j idx i=x:=λx hx=>by
   rcases dK.1 hx with rfl|hx
   .exact⟨j,h.sJ.gm.hel,ag,upd_same _ _ _⟩
   .obtain⟨i,L_,hi,e⟩:=h.IG x hx;exact⟨i,L_,ag,by rw[upd_ne ix _ ag];exact e⟩
  have est:∀tag',pend tag'=0->((Vc j D+pend (.sp (r+1) 1):Nat):Int)*KK=((Vc (j+1) (upd D j ⟨7,m₂+24,0⟩)+pend tag':Nat):Int)*KK:=λtag' hp=>by rw[eV,hp];simp[pend]
  have hN:=h.hN;cases r with
  |zero=>
   obtain⟨m₃,hk⟩:=aqQ
   refine⟨_,_,(phi N (Vc (j+1) (upd D j ⟨7,m₂+24,0⟩)) (.sp 0 7)+Ssum (j+1) (upd D j ⟨7,m₂+24,0⟩),m₃+2*Fsum (j+1) (upd D j ⟨7,m₂+24,0⟩)),EU,Prod.Lex.left _ _ eX,
    _,W,sl,j+1,_,_,_,.sp 0 7,0,m₃,0,a',_,_,_,idx::ids,rfl,ha',.c0 hk,acC,h.wV,?_,aA,aqR,aqS,ag,rfl⟩
   rw[est (.sp 0 7) rfl];exact .opn trivial ho' aA
  |succ r'=>
   obtain⟨m₃,hk⟩:=aqQ
   refine⟨_,_,(phi N (Vc (j+1) (upd D j ⟨7,m₂+24,0⟩)) (.sp (r'+1) 7)+Ssum (j+1) (upd D j ⟨7,m₂+24,0⟩),m₃+2*Fsum (j+1) (upd D j ⟨7,m₂+24,0⟩)),EU,Prod.Lex.left _ _ eX,
    _,W,sl,j+1,_,_,_,.sp (r'+1) 7,r'+1,m₃,0,a',_,_,_,idx::ids,rfl,ha',.c1 hk,acC,h.wV,?_,aA,aqR,aqS,ag,rfl⟩
   rw[est (.sp (r'+1) 7) rfl];exact .opn trivial ho' aA
 .exact Vg h.hb h.ha h.sJ h.wV qV h.F_ h.IG h.hN aA qU (λhh=>.c2 hh) ag
theorem XL.kd{m:Nat}{gT:aI}{An:aI->ah->Prop}(h:XL P ty Wg C n B M WP K N j 0 gs W t D ix ow l0 ids 0 a st sm)(qV:ConcN.Mode j D .kd st sm)(Xk:∀g w,An g w->g.status=.running)
  (N9:∀g w,An g w->∃m,Goes P true (RL ty Wg) DC0 (WW1 P ty Wg gT An) m g w) (hG:Goes P true (RL ty Wg) DC0 (WKd P ty Wg An) m a W) (hK:K ids gT (gw W l0)):
  Vh P ty Wg C n B M WP K N gs W sl t (phi N (Vc j D) .kd+Ssum j D,m+2*Fsum j D):=by
 have hN:=h.hN;have hVj:=Vc_le j D;rcases Goes.cases hG with sQ|⟨m',rfl,qU⟩
 .obtain⟨_,a',hgo,m₂,hk⟩:=sQ W (BO ty Wg W);exact h.bkp hgo (.refl Wg W) h.wV bk_dis rfl (.anch Xk N9 hk hK) (qV.reopen trivial trivial rfl aA) aA (.inl eX)
 .obtain⟨a',w',es,hgo,⟨rfl,rfl⟩,um⟩:=qU W (BO ty Wg W);exact h.idle hgo (.kd Xk N9 um hK) qV aA ag
theorem XL.w1{m:Nat}{gT:aI}{An:aI->ah->Prop}(h:XL P ty Wg C n B M WP K N j 0 gs W t D ix ow l0 ids 1 a st sm)(qV:ConcN.Mode j D .w1 st sm)(Xk:∀g w,An g w->g.status=.running)
  (N9:∀g w,An g w->∃m,Goes P true (RL ty Wg) DC0 (WW1 P ty Wg gT An) m g w) (hG:Goes P true (RL ty Wg) DC0 (WW1 P ty Wg gT An) m a W) (hK:K ids gT (gw W l0)):
  Vh P ty Wg C n B M WP K N gs W sl t (phi N (Vc j D) .w1+Ssum j D,m+2*Fsum j D):=by
 rcases Goes.cases hG with sQ|⟨m',rfl,qU⟩
 .obtain⟨_,xg⟩:=sQ W (BO ty Wg W);obtain⟨ho,rfl,rfl,_⟩:=qV.open_inv trivial;have hV:=Vc_le j D;have hN:=h.hN;have Wh:=h.Wh;have wV:=h.wV;obtain⟨a',hgo,h0,hne⟩:=xg (Vc j D) ag au7;by_cases hv:Vc j D=0
  .obtain⟨m₂,hk⟩:=h0 hv;refine h.bkp hgo (.refl Wg W) h.wV bk_rd rfl (tag':=.ke) (.ke hk hK) ?_ aA (.inl eX);have e:((Vc j D+pend .w1:Nat):Int)*KK=0:=by rw[hv];simp[pend]
   rw[e];exact .fin trivial (allQuit_of ho hv)
  .obtain⟨m₂,hk⟩:=hne hv;exact h.bkp hgo (.refl Wg W) h.wV bk_rd rfl (tag':=.w2 (Vc j D)) (.w2 Xk N9 hk hK) (qV.reopen trivial trivial rfl (λvs e=>by cases e;omega)) aA (.inl eX)
 .obtain⟨a',w',es,hgo,⟨rfl,rfl⟩,um⟩:=qU W (BO ty Wg W);exact h.idle hgo (.w1 Xk N9 um hK) qV aA ag
omit [Payload][qR][rJ][yV]in
theorem Vj{Wg:Nat}{x:Touch}:((MemAct.ofEvent (mk (.read (smA Wg)))).touch?=some x->∃ad:Addr,x.loc=.cell ad/\ad.block=Wg/\x.kind=.said)/\((MemAct.ofEvent (mk (.write (smA Wg)))).touch?=some x->∃ad:Addr,x.loc=.cell ad/\ad.block=Wg/\x.kind=.said):=by
 refine⟨λh=>?_,λh=>?_⟩<;>
 .simp only[mk,MemAct.ofEvent,MemAct.touch?,gW]at h;subst h;exact⟨_,rfl,rfl,rfl⟩
theorem arC(h:XL P ty Wg C n B M WP K N j r gs W t D ix ow l0 ids d0 a st sm)(QM:MS P ty Wg C n B M WP K ids l0 tag r f0 d0 a W)(qV:ConcN.Mode j D tag st sm)(DL:tag=.ret->NJ Wg j t)(r_:a.status=.running):
  (tag=.ret/\K ids a (gw W l0))\/Vh P ty Wg C n B M WP K N gs W sl t (phi N (Vc j D) tag+Ssum j D,f0+2*Fsum j D):=by
 have hVj:=Vc_le j D;have hN:=h.hN;have Wh:=h.Wh;have rl:=BO ty Wg W;have anK:WgLive ty Wg W:=⟨_,_,h.wV⟩;have tr:∀a b c,Ro Wg C n B (λi=>¬M i) a b->Ro Wg C n B (λi=>¬M i) b c->Ro Wg C n B (λi=>¬M i) a c:=λ_ _ _ a b=>Ro.trans a b
 cases QM with
 |c1 h0=>
  refine .inr ?_;rcases Goes.cases h0 with sQ|⟨m',rfl,qU⟩
  .obtain⟨_,gT,mm,as6,hG⟩:=sQ _ (Il W l0 _);obtain⟨m₂,hk⟩:=as6 W anK;exact(h.kd1 (qV.reopen trivial trivial rfl aA) hk hG).mono (Prod.Lex.left _ _ eX)
  .exact Vg h.hb h.ha h.sJ h.wV qV h.F_ h.IG h.hN aA qU (λhh=>.c1 hh) ag
 |kd1 hG h0=>exact .inr (h.kd1 qV hG h0)
 |a1 hG h0=>
  refine .inr ?_;rcases Goes.cases hG with sQ|⟨m',rfl,qU⟩
  .obtain⟨_,xg⟩:=sQ W rl;obtain⟨ho,rfl,rfl,_⟩:=qV.open_inv trivial;have wV:=h.wV;obtain⟨a',hgo,hz,hnz⟩:=xg (Vc j D) ag au7;have e:∀r s,s<=3->(((Vc j D:Nat):Int)+1)*KK=((Vc j D+pend (.sp r s):Nat):Int)*KK:=λr s hs=>by simp[pend,hs]
   have I9:=h.ro (aside_setCell W (stA Wg) (.int .u64 ((((Vc j D:Nat):Int)+1)*KK))) ⟨_,_,h.wV.setSt _⟩;by_cases hv:Vc j D=0
   .obtain⟨m₂,hk⟩:=hz hv;refine h.bkp hgo (aside_setCell W (stA Wg) _) (h.wV.setSt _) bk_rw rfl (.rd1 hk (dF tr h0 I9)) ?_ aA (.inl eX);rw[e _ 3 ag];exact .opn trivial ho aA
   .obtain⟨m₂,hk⟩:=hnz hv;refine h.bkp hgo (aside_setCell W (stA Wg) _) (h.wV.setSt _) bk_rw rfl (.ke1 hk (dF tr h0 I9)) ?_ aA (.inl eX);rw[e _ 2 ag];exact .opn trivial ho aA
  .obtain⟨a',w',es,hgo,⟨rfl,rfl⟩,um⟩:=qU W rl;exact h.idle hgo (.a1 um h0) qV aA ag
 |rd1 hG h0=>
  refine .inr ?_;rcases Goes.cases hG with sQ|⟨m',rfl,qU⟩
  .obtain⟨_,a',hgo,m₂,hk⟩:=sQ W rl;exact h.say hgo (λx hx=>Vj.1 hx) ⟨gJ,gJ,gJ⟩ (.ke1 hk h0) (qV.reopen trivial trivial rfl aA) aA (.inl eX)
  .obtain⟨a',w',es,hgo,⟨rfl,rfl⟩,um⟩:=qU W rl;exact h.idle hgo (.rd1 um h0) qV aA ag
 |ke1 hG h0=>
  refine .inr ?_;rcases Goes.cases hG with sQ|⟨m',rfl,qU⟩
  .obtain⟨_,a',hgo,m₂,hk⟩:=sQ W rl;exact h.bkp hgo (.refl Wg W) h.wV bk_en rfl (.en1 hk h0) (qV.reopen trivial trivial rfl aA) aA (.inl eX)
  .obtain⟨a',w',es,hgo,⟨rfl,rfl⟩,um⟩:=qU W rl;exact h.idle hgo (.ke1 um h0) qV aA ag
 |en1 hG h0=>
  refine .inr ?_;rcases Goes.cases hG with sQ|⟨m',rfl,qU⟩
  .obtain⟨_,rfl⟩:=sQ W rl;exact(h.c2 qV h0).mono (Prod.Lex.right _ ag)
  .obtain⟨a',w',es,hgo,⟨rfl,rfl⟩,um⟩:=qU W rl;exact h.idle hgo (.en1 um h0) qV aA ag
 |c2 h0=>exact .inr (h.c2 qV h0)
 |c0 h0=>
  refine .inr ?_;rcases Goes.cases h0 with sQ|⟨m',rfl,qU⟩
  .obtain⟨_,gT,⟨An,Xk,N9,aqT⟩,hK⟩:=sQ _ (Il W l0 _);obtain⟨m₂,hk⟩:=aqT W anK;exact(h.kd (qV.reopen trivial trivial rfl aA) Xk N9 hk hK).mono (Prod.Lex.left _ _ eX)
  .exact Vg h.hb h.ha h.sJ h.wV qV h.F_ h.IG h.hN aA qU (λhh=>.c0 hh) ag
 |kd Xk N9 hG hK=>exact .inr (h.kd qV Xk N9 hG hK)
 |anch Xk N9 hG hK=>
  refine .inr ?_;rcases Goes.cases hG with sQ|⟨m',rfl,qU⟩
  .obtain⟨m₂,hk⟩:=N9 a W (sQ W rl);exact(h.w1 (qV.reopen trivial trivial rfl aA) Xk N9 hk hK).mono (Prod.Lex.left _ _ eX)
  .obtain⟨a',w',es,hgo,⟨rfl,rfl⟩,um⟩:=qU W rl;exact h.idle hgo (.anch Xk N9 um hK) qV aA ag
 |w1 Xk N9 hG hK=>exact .inr (h.w1 qV Xk N9 hG hK)
 |@w2 vs _ _ _ _ _ Xk N9 hG hK=>
  refine .inr ?_;rcases Goes.cases hG with sQ|⟨m',rfl,qU⟩
  .obtain⟨_,xg⟩:=sQ W rl;obtain⟨ho,rfl,rfl,xI⟩:=qV.open_inv trivial;obtain⟨hle,h1⟩:=xI vs rfl;have wV:=h.wV;obtain⟨as7,arE⟩:=xg (Vc j D) ag au7;by_cases e:Vc j D=vs
   .obtain⟨a',hgo,m₂,hk⟩:=as7 e;have I9:=h.ro (aside_setCell W (stA Wg) (.int .u64 (((Vc j D:Nat):Int)*KK+1))) ⟨_,_,h.wV.setSt _⟩;exact h.bkp hgo (aside_setCell W (stA Wg) _) (h.wV.setSt _) bk_rw rfl (.wr hk (h.hb.k _ _ _ _ I9 hK)) (.reg trivial ho ag) aA (.inl eX)
   .obtain⟨a',hgo,m₂,hk⟩:=arE e;exact h.bkp hgo (.refl Wg W) h.wV bk_rd rfl (.anch Xk N9 hk hK) (qV.reopen trivial trivial rfl aA) aA (.inl eX)
  .obtain⟨a',w',es,hgo,⟨rfl,rfl⟩,um⟩:=qU W rl;exact h.idle hgo (.w2 Xk N9 um hK) qV aA ag
 |wr hG hK=>
  refine .inr ?_;rcases Goes.cases hG with sQ|⟨m',rfl,qU⟩
  .obtain⟨_,a',hgo,m₂,h60,hk⟩:=sQ W rl;exact h.say hgo (λx hx=>Vj.2 hx) ⟨gJ,gJ,gJ⟩ (.w3 hk hK) qV aA (.inr ⟨rfl,ag⟩)
  .obtain⟨a',w',es,hgo,⟨rfl,rfl⟩,um⟩:=qU W rl;exact h.idle hgo (.wr um hK) qV aA ag
 |w3 hG hK=>
  refine .inr ?_;rcases Goes.cases hG with sQ|⟨m',rfl,qU⟩
  .obtain⟨_,arF,Kt,afy⟩:=sQ W rl;have wV:=h.wV;cases qV with
   |opn h1 _ _=>exact h1.elim
   |reg h1 h2 h3=>exact h.bkp (Kt ⟨_,wV⟩) (.refl Wg W) wV aA rfl (.blk sQ hK) (.reg trivial h2 h3) aA (.inr ⟨rfl,ag⟩)
   |last L h1 h2 h3 h4=>exact h.bkp (Kt ⟨_,wV⟩) (.refl Wg W) wV aA rfl (.blk sQ hK) (.last L trivial h2 h3 h4) aA (.inr ⟨rfl,ag⟩)
   |sema h2=>
    obtain⟨a',hgo,m₂,hk⟩:=afy wV;have I9:=h.ro (aside_setCell W (smA Wg) (.int .u32 0)) ⟨_,_,h.wV.setSm 0⟩;exact h.bkp hgo (aside_setCell W (smA Wg) _) (wV.setSm 0) bk_sem apM (.w4 hk (h.hb.k _ _ _ _ I9 hK)) (.fin trivial h2) aA (.inl eX)
   |fin h1 _=>exact h1.elim
  .obtain⟨a',w',es,hgo,⟨rfl,rfl⟩,um⟩:=qU W rl;exact h.idle hgo (.w3 um hK) qV aA ag
 |blk hG hK=>simp at r_
 |w4 hG hK=>
  refine .inr ?_;rcases Goes.cases hG with sQ|⟨m',rfl,qU⟩
  .obtain⟨_,hx⟩:=sQ W rl;obtain⟨hq,rfl,rfl⟩:=qV.fin_inv trivial;obtain⟨a',hgo,m₂,hk⟩:=hx h.wV;exact h.bkp hgo (.refl Wg W) h.wV bk_rd rfl (.ke hk hK) (.fin trivial hq) aA (.inl eX)
  .obtain⟨a',w',es,hgo,⟨rfl,rfl⟩,um⟩:=qU W rl;exact h.idle hgo (.w4 um hK) qV aA ag
 |ke hG hK=>
  refine .inr ?_;rcases Goes.cases hG with sQ|⟨m',rfl,qU⟩
  .obtain⟨_,a',hgo,m₂,hk⟩:=sQ W rl;obtain⟨hq,rfl,rfl⟩:=qV.fin_inv trivial;exact h.bkp hgo (.refl Wg W) h.wV bk_en rfl (.acq hk hK) (.fin trivial hq) aA (.inl eX)
  .obtain⟨a',w',es,hgo,⟨rfl,rfl⟩,um⟩:=qU W rl;exact h.idle hgo (.ke um hK) qV aA ag
 |acq hG hK=>
  refine .inr ?_;rcases Goes.cases hG with sQ|⟨m',rfl,qU⟩
  .obtain⟨_,a',hgo,m₂,hk⟩:=sQ W rl;obtain⟨hq,rfl,rfl⟩:=qV.fin_inv trivial;refine h.say hgo (λx hx=>jZ) ⟨gJ,gJ,gJ⟩ (.ret hk hK) (.fin trivial hq) (λ_=>?_) (.inl eX);have e1:MemOp.ofEvents 0 a.frame.fn a.frame.place #[mk (.acquire (stA Wg))]=#[{g:=0,fn:=a.frame.fn,pos:=a.frame.place,act:=.mark (.acquire (stA Wg))}]:=by rw[ofEvents_eq];simp[ofEvent_mk]
   have hy:(t++#[({g:=0,fn:=a.frame.fn,pos:=a.frame.place,act:=.mark (.acquire (stA Wg))}:MemOp)])[t.size]?=some {g:=0,fn:=a.frame.fn,pos:=a.frame.place,act:=.mark (.acquire (stA Wg))}:=aA;refine⟨t.size,by rw[e1,act?_of hy],by rw[e1];simp[Trace.g?],by rw[e1];exact⟨0,by simp[Trace.g?],by rw[deaf_old (ay _)];exact h.sJ.deaf0⟩,λi L_ hi=>?_⟩;obtain⟨r,hr,VT⟩:=h.sJ.rel i L_ hi (by rw[hq i hi];omega);exact⟨r,hr.appOther g_of_ofEvents ag,lt_of_act? hr.act,VT⟩
  .obtain⟨a',w',es,hgo,⟨rfl,rfl⟩,um⟩:=qU W rl;exact h.idle hgo (.acq um hK) qV aA ag
 |ret hG hK=>
  rcases Goes.cases hG with sQ|⟨m',rfl,qU⟩
  .obtain⟨_,rfl⟩:=sQ W rl;exact .inl ⟨rfl,hK⟩
  .obtain⟨a',w',es,hgo,⟨rfl,rfl⟩,um⟩:=qU W rl;exact .inr (h.idle hgo (.ret um hK) qV DL ag)
end
end Go.Gh
namespace Go.Gh
open Go.Conc Go.ConcN
open Go.ConcR (KK WgAt stA smA rd wr mk Payload DC0 g_of_ofEvents)
variable [Payload][qR][rJ][yV]
omit [Payload][qR][rJ][yV]in
theorem agK(act:MemAct):∃B,act.low B:=by
 cases act with
 |access e=>
  obtain⟨loc,_,_⟩:=e;cases loc with
  |cell a=>exact⟨a.block+1,dZ _⟩
  |obj r=>exact⟨r+1,dZ _⟩
  |_=>exact⟨0,trivial⟩
 |mark m=>
  cases m with
  |acquire a=>exact⟨a.block+1,dZ _⟩
  |release a=>exact⟨a.block+1,dZ _⟩
  |releaseMerge a=>exact⟨a.block+1,dZ _⟩
  |read a=>exact⟨a.block+1,dZ _⟩
  |write a=>exact⟨a.block+1,dZ _⟩
  |_=>exact⟨0,trivial⟩
 |go _=>exact⟨0,trivial⟩
 |start=>exact⟨0,trivial⟩
 |send c _=>exact⟨c+1,dZ _⟩
 |sendDone c _=>exact⟨c+1,dZ _⟩
 |recv c _ _=>exact⟨c+1,dZ _⟩
 |recvDone c _=>exact⟨c+1,dZ _⟩
 |close c=>exact⟨c+1,dZ _⟩
 |recvClosed c=>exact⟨c+1,dZ _⟩
omit [Payload][qR][rJ][yV]in
theorem FZ(t:Trace):∃B,∀op∈t,op.act.low B:=by
 have key:∀l:List MemOp,∃B,∀op∈l,op.act.low B:=by
  intro l
  induction l with
  |nil=>exact⟨0,aA⟩
  |cons x l ih=>
   obtain⟨B,hB⟩:=ih;obtain⟨B',Nj⟩:=agK x.act;refine⟨max B B',λop uZ=>?_⟩;rcases dK.1 uZ with rfl|uZ
   .exact MemAct.low_mono (oO _ _) Nj
   .exact MemAct.low_mono (oP _ _) (hB op uZ)
 obtain⟨B,hB⟩:=key t.toList;exact⟨B,λop uZ=>hB op (by simpa using uZ)⟩
section
variable {P:aP}{ty:aG}{Wg C n B:Nat}{M:Nat->Prop}{WP:Nat->ai->ah->Prop}{K:aC->aI->ah->Prop}{N:Nat}{Post:ai->ah->Prop}
 {gs:dD} {W W':ah} {sl:Option (Nat×Nat)} {j:Nat} {D:Nat->WD} {ix:Nat->Nat} {ow:Nat->aC} {tag:CTag} {r f0 d0:Nat} {a:aI} {t:Trace} {st sm:Int} {l0 ids:aC}
omit [yV][rJ]in
theorem WS.running{idx s m d:Nat}{l:aC}{g:aI}(h:WS P ty Wg C n B WP idx l s m d g W)(hs:s≠1):g.status=.running:=by
 cases h with
 |comp h=>exact Goes.running (λ_ _ x=>x.1) (gw W l) (Il W l _) h
 |lib h _ _ _=>exact h.running_of hs
omit [yV][rJ]in
theorem MS.amn(h:MS P ty Wg C n B M WP K ids l0 tag r f0 d0 a W):pend tag<=r:=by cases h<;>simp[pend]
theorem agA(ha:gs[0]?=some a)(QM:MS P ty Wg C n B M WP K ids l0 tag r f0 d0 a W)(sJ:Cm P ty Wg C n B M WP j gs W t D ix ow l0 d0)(qV:ConcN.Mode j D tag st sm):∃(i:Nat)(g:aI),gs[i]?=some g/\g.status=.running:=by
 have away:∀i,(D i).stage≠1->rJ.el<=i:=λi h=>Nat.le_of_not_lt λqB=>let⟨_,_,h1,_⟩:=sJ.eld i qB;h h1
 rcases QM.status with⟨hs,_⟩|⟨_,rfl⟩
 .exact⟨0,a,ha,hs⟩
 .cases qV with
  |opn h1 _ _=>exact h1.elim
  |reg _ _ h3=>
   obtain⟨i,hi,h5⟩:=exists_counted h3;obtain⟨g,hg,hs⟩:=sJ.wk i (away i ag) hi;exact⟨i+1,g,hg,hs.running ag⟩
  |last L _ h2 h3 _=>
   obtain⟨g,hg,hs⟩:=sJ.wk L (away L ag) h2;exact⟨L+1,g,hg,hs.running ag⟩
  |fin h1 _=>exact h1.elim
theorem ajf(ha:gs[0]?=some a)(QM:MS P ty Wg C n B M WP K ids l0 tag r f0 d0 a W)(sJ:Cm P ty Wg C n B M WP j gs W t D ix ow l0 d0):∀g∈gs,awake g:=by
 intro g hg tm;obtain⟨i,hi⟩:=pM.1 hg;cases i with
 |zero=>
  rw[ha]at hi;cases hi;rcases QM.status with⟨hs,_⟩|⟨hs,_⟩<;>rw[hs]<;>simp
 |succ i=>
  have qB:i<j:=by have:=(eG.1 hi).1;rw[sJ.size]at this;omega
  rcases bK i rJ.el with he|he
  .obtain⟨g',um,_,hs⟩:=sJ.eld i he;exact ayc
  .obtain⟨g',um,hs⟩:=sJ.wk i he qB;exact ayc
theorem Cm.ajg(h:Cm P ty Wg C n B M WP j gs W t D ix ow l0 d0){i:Nat}(hi:i<rJ.el){g g':aI}{fn:aU}{pos:String}{es:aN}{q:Nat}(hm:∀e∈es,Event.mute e=true)(hq:QuitsD P q (deafBehind (D i).deaf es) g'):
  Cm P ty Wg C n B M WP j ((gs.map (woken P g g' W)).setIfInBounds (i+1) g') W (t++MemOp.ofEvents (i+1) fn pos es) (upd D i ⟨1,q,deafBehind (D i).deaf es⟩) ix ow l0 d0:=by
 have hel:=h.gm.hel;have Jg:∀e∈es,Go.ConcR.Bk Wg e:=λe he=>Go.ConcR.bk_of_mute (hm e he)
 have hne:O6 (MemOp.ofEvents (i+1) fn pos es):=λop uZ=>by obtain⟨e,he,rfl⟩:=Go.Conc.mem_ofEvents uZ;exact .inr (.inr (touch_mute (hm e he)))
 refine⟨lu,λi' TM IC=>?_,λi' TM=>?_,h.past.app hne,h.over.app hne,h.ct.appW h.gm.apart ag ag (ajC Jg),h.norel.app (norel_of (norel_of_Bk Jg)),aus,
  TF h.low (ay _) (λop uZ=>by obtain⟨e,he,rfl⟩:=Go.Conc.mem_ofEvents uZ;exact DZ (touch_mute (hm e he))),awO,λi' IC=>?_,λi' TM IC uw=>?_,h.pay,h.gm,h.out,h.os⟩
 .obtain⟨x,hx,hsx⟩:=h.wk i' TM IC;refine⟨x,avy,?_⟩;rw[upd_ne D _ ag];exact hsx
 .by_cases e:i'=i
  .subst e;refine⟨g',get_map_set_same _ _ _ aun,?_⟩;rw[upd_same];exact⟨rfl,hq⟩
  .obtain⟨x,hx,D5,N8⟩:=h.eld i' TM;refine⟨x,avx,?_⟩;rw[upd_ne D _ e];exact⟨D5,N8⟩
 .by_cases e:i'=i
  .subst e;rw[Deaf_own,h.deafW i' IC,upd_same]
  .exact aym
 .rw[upd_ne D _ ag]at uw;exact aye
theorem ajg(ha:gs[0]?=some a)(QM:MS P ty Wg C n B M WP K ids l0 tag r f0 d0 a W)(sJ:Cm P ty Wg C n B M WP j gs W t D ix ow l0 d0)
  (wV:WgAt ty Wg W st sm) (qV:ConcN.Mode j D tag st sm) (DL:tag=.ret->NJ Wg j t) (F_:∀i,rJ.el<=i->i<j->ix i∈ids) (IG:∀x∈ids,∃i,rJ.el<=i/\i<j/\ix i=x) (hN:j+r=N)
  {i:Nat} (hi:i<rJ.el) {g:aI} (hg:gs[i+1]?=some g) (r_:g.status=.running):
  ∃m₁ ops μ',runT P (crowd gs W sl) (i+1)=(.next m₁,ops)/\Lt2 μ' (phi N (Vc j D) tag+Ssum j D,f0+2*Fsum j D)/\Iv P ty Wg C n B M WP K N μ' m₁ (t++ops):=by
 obtain⟨x,hx,uw,hq⟩:=sJ.eld i hi;obtain rfl:g=x:=by rw[hg]at hx;exact gu hx
 have PV:i<j:=by have:=sJ.gm.hel;omega
 cases hf:(D i).fuel with
 |zero=>rw[hf]at hq;rw[hq.1]at r_;cases r_
 |succ q=>
  rw[hf]at hq;rcases hq with⟨h,_⟩|⟨_,g',es,hm,qU,hq'⟩
  .rw[h]at r_;cases r_
  obtain⟨tag',f',JI,hf',aex,_⟩:=QM.wokenBy g g';have acB:=runT_crowd_go (P:=P) (sl:=sl) (i:=i+1) hg (by simpa using qU W);have e1:=sumTo_upd D (⟨1,q,deafBehind (D i).deaf es⟩:WD) cnt PV;have e2:=sumTo_upd D (⟨1,q,deafBehind (D i).deaf es⟩:WD) WD.stage PV;have e3:=sumTo_upd D (⟨1,q,deafBehind (D i).deaf es⟩:WD) WD.fuel PV
  have IK:ConcN.Mode j (upd D i ⟨1,q,deafBehind (D i).deaf es⟩) tag st sm:=by have:=qV.same (i:=i) q (deafBehind (D i).deaf es);rwa[uw]at this
  refine⟨_,_,(phi N (Vc j (upd D i ⟨1,q,deafBehind (D i).deaf es⟩)) tag'+Ssum j (upd D i ⟨1,q,deafBehind (D i).deaf es⟩),f'+2*Fsum j (upd D i ⟨1,q,deafBehind (D i).deaf es⟩)),acB,?_,
   _,W,sl,j,upd D i ⟨1,q,deafBehind (D i).deaf es⟩,ix,ow,tag',r,f',d0,woken P g g' W a,st,sm,l0,ids,rfl,awz,JI,sJ.ajg hi hm hq',wV,IK.retag aex,λe=>?_,F_,IG,hN,rfl⟩
  .rw[phi_retag N _ aex];simp only[Vc,Ssum,Fsum]at*;have ec:cnt (⟨1,q,deafBehind (D i).deaf es⟩:WD)=cnt (D i):=by simp only[cnt,uw]
   have ev:(sumTo j λa=>cnt (upd D i ⟨1,q,deafBehind (D i).deaf es⟩ a))=sumTo j λa=>cnt (D a):=ag
   have rF:(sumTo j λa=>(upd D i ⟨1,q,deafBehind (D i).deaf es⟩ a).stage)=sumTo j λa=>(D a).stage:=ag
   rw[ev,rF];refine Prod.Lex.right _ ?_;omega
  .have e':tag=.ret:=by
    rcases aex with rfl|⟨_,rfl⟩
    .exact e
    .cases e
   exact(DL e').app λi' r hl _ hr=>hr.appOther g_of_ofEvents ag
theorem agB(sJ:Cm P ty Wg C n B M WP j gs W t D ix ow l0 0)(DL:NJ Wg j t){B':Nat}(hB:∀op∈t,op.act.low B'):Past (KZ Wg) B' t:=by
 obtain⟨q,h1,h2,h3,h4⟩:=DL
 have hg:∀i g,t.g? i=some g->rJ.el<g->∃r,RelBy (stA Wg) t g r/\r<q/\rJ.ts<=r:=by intro i g hgi hne;obtain⟨op,ho,rfl⟩:=dU.1 hgi;have:=sJ.ct.gs i op ho;have:=h4 (op.g-1) ag ag;rwa[show op.g-1+1=op.g by omega]at this
 have edge:∀{g r:Nat},RelBy (stA Wg) t g r->r<q->rJ.ts<=r->HappensBefore t r q:=λhr hrq VT=>.single (.inr ⟨.marked hrq (.inr hr.act) h1 (λk hk _=>sJ.norel k ag),hr.heard,h3⟩)
 have aqU:t.HandedOver:=by
  intro i g hgi hne hc;rcases bK rJ.el g with he|he
  .obtain⟨r,hr,hrq,VT⟩:=hg i g hgi he;have hle:i<=r:=Nat.le_of_not_lt λqB=>hr.after i qB hgi hc
   rcases bK i r with qB|NV
   .exact⟨q,h2,.trans (.single (.inl ⟨qB,g,hgi,hr.g⟩)) (edge hr hrq VT)⟩
   .obtain rfl:i=r:=ag;exact⟨q,h2,edge hr hrq VT⟩
  .exact sJ.over i g hgi hne he hc
 have hq0:∃z,t[q]?=some z/\z.g=0:=by obtain⟨z,hz,hz'⟩:=dU.1 h2;exact⟨z,hz,hz'⟩
 refine⟨sJ.ct.nr,λi x hx hm=>?_,aqU,sJ.deaf0,hB⟩;obtain⟨op,ho,hox⟩:=touch_of hx;by_cases hz:op.g=0
 .exact .inl (by have:=knows_own ho;rwa[hz]at this)
 .rcases bK rJ.el op.g with he|he
  .obtain⟨r,hr,hrq,VT⟩:=hg i op.g avf he;obtain⟨z,wW,vV⟩:=hq0;rcases bK r i with qB|NV
   .have hnc:=hr.after i qB avf;refine .inr ?_
    have hat:x.kind=.atomic:=by
     by_cases hk:x.kind=.atomic
     .exact hk
     .exact absurd ⟨x,hx,hm,.inl hk⟩ hnc
    exact⟨.inl ((sJ.low op (fJ ho) x hox).2.1 he hat),hat⟩
   .refine .inl ⟨q,z,wW,vV,.inr ?_⟩;rcases bK i r with qB|arG
    .exact .trans (.single (.inl ⟨qB,op.g,avf,hr.g⟩)) (edge hr hrq VT)
    .obtain rfl:i=r:=ag;exact edge hr hrq VT
  .exact sJ.past i op x ho hox hm hz he
theorem Zn(sJ:Cm P ty Wg C n B M WP j gs W t D ix ow l0 0)(hq:AllQuit j D):Leavers P t gs (λi=>(D (i-1)).fuel):=by
 refine⟨λi g hi hg=>?_,λi hi=>?_⟩
 .obtain⟨i',rfl⟩:∃i',i=i'+1:=⟨i-1,ag⟩;have qB:i'<j:=by have:=(eG.1 hg).1;rw[sJ.size]at this;omega
  rw[sJ.deafW i' qB];rcases bK i' rJ.el with he|he
  .obtain⟨g',um,_,xk⟩:=sJ.eld i' he;rw[hg]at um;cases um;exact xk
  .obtain⟨g',um,xk⟩:=sJ.wk i' he qB;rw[hg]at um;cases um;rw[hq i' qB]at xk;exact xk.quits
 .exact Deaf_absent λa op ha e=>by have:=sJ.ct.gs a op ha;rw[sJ.size]at hi;omega
structure JH(Shun:Loc->Prop)(sz e:Nat)(t:Trace):Prop where
 quiet:Quiet Shun t
 gs:∀op∈t,op.g<=e
 low:∀op∈t,∀x,op.act.touch?=some x->(∀ad,x.loc=.cell ad->ad.block<sz)/\(op.g≠0->x.loc.isMemory=true)
theorem agC(sJ:Cm P ty Wg C n B M WP j gs W t D ix ow l0 0):JH (KZ Wg) W.heap.size j t:=
 ⟨sJ.ct.quiet,λop uZ=>let⟨i,hi⟩:=pM.1 uZ;sJ.ct.gs i op hi,λop uZ x hx=>⟨(sJ.low op uZ x hx).1,(sJ.low op uZ x hx).2.2⟩⟩
theorem XM{q:Nat->Nat}{B₀:Nat}(ha:gs[0]?=some a)(hsz:gs.size=rJ.el+1)(hL:Leavers P t gs q)(hP:Past (KZ Wg) B₀ t)(hT:JH (KZ Wg) W.heap.size rJ.el t)(hts:t.size=rJ.ts)
  (hold:∀b,qR.old b->b<B/\b≠C) (hW:Wg<B) (hC:C<B) (hCW:C≠Wg) (hB:B<=W.heap.size) (wV:WgAt ty Wg W 0 0) (apF:PayAt C n W) (hsp:Sp P ty Wg C n B M WP K N [] a (gw W []))
  (ho:W.output=yV.o0) (hos:W.os=yV.os0):
  ∃μ,Iv P ty Wg C n B M WP K (rJ.el+N) μ (crowd gs W sl) t:=by
 have kn:∀l,¬KZ Wg l->Perm t 0 l:=λl hl i x hx e=>by
  obtain⟨op,ho,hox⟩:=touch_of hx;by_cases h0:op.g=0
  .have:=knows_own ho;rwa[h0]at this
  .rcases hP.known i x hx ((hT.low op (fJ ho) x hox).2 h0)with h|⟨h,_⟩
   .exact h
   .exact absurd (e▸h) hl
 have gm:Gm Wg C B M rJ.el (λ_=>0) (λ_=>[]) [] W.heap.size:=⟨hW,hC,hCW,hB,λ_ _=>aA,aA,λ_ _ _ _ _ h=>absurd h aA,λ_ _ _ h=>absurd h aA,λ_ _ h _ h'=>absurd h ag,λ_ h h'=>absurd h ag,ay _,hold⟩
 have ct:CT (KZ Wg) (Wv C rJ.el (λ_=>0) (λ_=>[])) (RdF Wg C B) t rJ.el:=
  ⟨hT.quiet,λk _ kj l hl=>absurd hl.1 ag,λk _ kj l hl=>absurd hl.1 ag,λl hs _=>kn l hs,λl hs _=>.of (kn l hs),hP.clean,
   λi op hi=>hT.gs op (fJ hi)⟩
 have get:∀i,i<rJ.el->∃g,gs[i+1]?=some g:=λi hi=>⟨gs[i+1]' ag,pV ag⟩
 have cm:Cm P ty Wg C n B M WP rJ.el gs W t (λi=>⟨1,q (i+1),Deaf t (i+1)⟩) (λ_=>0) (λ_=>[]) [] 0:=
  ⟨hsz,λi h h'=>absurd h ag,λi hi=>let⟨g,hg⟩:=get i hi;⟨g,hg,rfl,hL.old (i+1) g ag hg⟩,λi op x hi hx hm h0 _=>(hP.known i x (by rw[touchAt_of hi];exact hx) hm),λi g hg hne _ hc=>hP.over i g hg hne hc,ct,
   λi hi e=>by obtain⟨op,uZ,_⟩:=dU.1 e;have:=lt_size_of_getElem? uZ;omega,fA hts.symm,
   λop uZ x hx=>⟨(hT.low op uZ x hx).1,λh=>by have:=hT.gs op uZ;omega,(hT.low op uZ x hx).2⟩,hP.hears,λ_ _=>rfl,λi h h'=>absurd h ag,apF,gm,ho,hos⟩
 have hV:Vc rJ.el (λi=>(⟨1,q (i+1),Deaf t (i+1)⟩:WD))=0:=by
  have:∀n,(sumTo n λa=>cnt (⟨1,q (a+1),Deaf t (a+1)⟩:WD))=0:=λn=>by
   induction n with
   |zero=>rfl
   |succ n ih=>simp only[sumTo,ih];rfl
  exact this _
 have md:∀tag,isOpen tag->pend tag=0->(∀vs,tag≠.w2 vs)->ConcN.Mode rJ.el (λi=>(⟨1,q (i+1),Deaf t (i+1)⟩:WD)) tag 0 0:=λtag h1 h2 h3=>by have:=ConcN.Mode.opn (j:=rJ.el) (D:=λi=>(⟨1,q (i+1),Deaf t (i+1)⟩:WD)) h1 (λ_ _=>aA) (λvs e=>absurd e (h3 vs));rw[h2,hV]at this;exact axb
 cases N with
 |zero=>
  obtain⟨m,hm⟩:=hsp;exact⟨_,gs,W,sl,rJ.el,_,_,_,.sp 0 7,0,m,0,a,0,0,[],[],rfl,ha,.c0 hm,cm,wV,md _ trivial rfl aA,aA,λ_ h h'=>absurd h ag,aA,rfl,rfl⟩
 |succ r=>
  obtain⟨m,hm⟩:=hsp;exact⟨_,gs,W,sl,rJ.el,_,_,_,.sp (r+1) 7,r+1,m,0,a,0,0,[],[],rfl,ha,.c1 hm,cm,wV,md _ trivial rfl aA,aA,λ_ h h'=>absurd h ag,aA,rfl,rfl⟩
end
#print axioms XM

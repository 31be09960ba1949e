import Derived.Test.YtnbflnamlpodcaaGreatDoorGhD
import Derived.Test.YtnbflnamlpodcaaGreatDoorGhE
set_option maxHeartbeats 1600000
namespace Go.Gh
open Go.Conc Go.ConcN
open Go.ConcR (KK WgAt stA smA rd wr mk Payload DC0 again_blocked)
variable [Payload][rq]
def NoF(_:Nat)(_:Loc):Prop:=False
section
variable (P:aN)(ty:aF)(Wg C n B:Nat)(M:Nat->Prop)(WP:Nat->ai->ah->Prop)(K:aA->aG->ah->Prop)
def apB(idx:Nat)(g:aG)(w:ah):Prop:=
 g.status=.running/\∃v,WP idx v w/\Has C idx v w/\∀W,WgLive ty Wg W->Has C idx v W->Goes P false (RW ty Wg C n 0 (idx+1-1)) (DWs Wg NoF NoF C n (idx+1)) (AtR0 P ty Wg C n 0 (idx+1) v) 23 g W
def Wk(idx m:Nat)(g:aG)(w:ah):Prop:=Goes P false (Ro Wg C n B (· =idx)) (Dg Wg C n B (· =idx)) (apB P ty Wg C n WP idx) m g w
def al5(ids:aA)(g:aG)(w:ah):Prop:=g.status=.running/\∃gT,an1 P ty Wg gT g/\K ids gT w
def AtGo(Next:aA->aG->ah->Prop)(ids:aA)(g:aG)(w:ah):Prop:=
 g.status=.running/\∃g' child idx l,stepG P true g w=.spawn g' child w #[]/\child.status=.running/\idx∉ids/\M idx/\(∀b∈l,qZ w b)/\
  (∃m,Wk P ty Wg C n B WP idx m child (w.out (book w.heap.size l)))/\∀l',(∀b,b∈l'↔qZ w b/\b∉l)->Next (idx::ids) g' (w.out (book w.heap.size l'))
def afa(Next:aA->aG->ah->Prop)(ids:aA)(g:aG)(w:ah):Prop:=
 g.status=.running/\∃gT mm,aru P ty Wg gT g/\(Goes P true (Ro Wg C n B (λi=>¬M i)) (Dg Wg C n B (λi=>¬M i))) (AtGo P ty Wg C n B M WP Next ids) mm gT w
def Sp:Nat->aA->aG->ah->Prop
 |0,ids,g,w=>∃m,(Goes P true (Ro Wg C n B (λi=>¬M i)) (Dg Wg C n B (λi=>¬M i))) (al5 P ty Wg K ids) m g w
 |r+1,ids,g,w=>∃m,(Goes P true (Ro Wg C n B (λi=>¬M i)) (Dg Wg C n B (λi=>¬M i))) (afa P ty Wg C n B M WP (Sp r) ids) m g w
inductive WS (idx:Nat) (l:aA):Nat->Nat->Nat->aG->ah->Prop
 |comp {m:Nat} {g:aG} {W:ah}:Wk P ty Wg C n B WP idx m g (gw W l)->WS idx l 7 (m+24) 0 g W
 |lib {v:ai} {s m d:Nat} {g:aG} {W:ah}:WSit P ty Wg C n NoF NoF 0 (idx+1) v s m d g W->(s=7->m<=23)->WP idx v (gw W l)->(s<=6->Has C idx v W)->WS idx l s m d g W
inductive MS (ids:aA) (l:aA):CTag->Nat->Nat->Nat->aG->ah->Prop
 |c1 {r m:Nat} {g:aG} {W:ah}:(Goes P true (Ro Wg C n B (λi=>¬M i)) (Dg Wg C n B (λi=>¬M i))) (afa P ty Wg C n B M WP (Sp P ty Wg C n B M WP K r) ids) m g (gw W l)->MS ids l (.sp (r+1) 7) (r+1) m 0 g W
 |kd1 {r m mm:Nat} {g gT:aG} {W:ah}:(Goes P true (RL ty Wg) DC0) (AKd P ty Wg gT) m g W->(Goes P true (Ro Wg C n B (λi=>¬M i)) (Dg Wg C n B (λi=>¬M i))) ((AtGo P ty Wg C n B M WP) (Sp P ty Wg C n B M WP K r) ids) mm gT (gw W l)->MS ids l (.sp (r+1) 6) (r+1) m 0 g W
 |a1 {r m mm:Nat} {g gT:aG} {W:ah}:(Goes P true (RL ty Wg) DC0) (AA1 P ty Wg gT) m g W->(Goes P true (Ro Wg C n B (λi=>¬M i)) (Dg Wg C n B (λi=>¬M i))) ((AtGo P ty Wg C n B M WP) (Sp P ty Wg C n B M WP K r) ids) mm gT (gw W l)->MS ids l (.sp (r+1) 5) (r+1) m 1 g W
 |rd1 {r m mm:Nat} {g gT:aG} {W:ah}:(Goes P true (RL ty Wg) DC0) (ARd P ty Wg gT) m g W->(Goes P true (Ro Wg C n B (λi=>¬M i)) (Dg Wg C n B (λi=>¬M i))) ((AtGo P ty Wg C n B M WP) (Sp P ty Wg C n B M WP K r) ids) mm gT (gw W l)->MS ids l (.sp (r+1) 3) (r+1) m 1 g W
 |ke1 {r m mm:Nat} {g gT:aG} {W:ah}:(Goes P true (RL ty Wg) DC0) (AKe P ty Wg gT) m g W->(Goes P true (Ro Wg C n B (λi=>¬M i)) (Dg Wg C n B (λi=>¬M i))) ((AtGo P ty Wg C n B M WP) (Sp P ty Wg C n B M WP K r) ids) mm gT (gw W l)->MS ids l (.sp (r+1) 2) (r+1) m 1 g W
 |en1 {r m mm:Nat} {g gT:aG} {W:ah}:(Goes P true (RL ty Wg) DC0) (ajL gT) m g W->(Goes P true (Ro Wg C n B (λi=>¬M i)) (Dg Wg C n B (λi=>¬M i))) ((AtGo P ty Wg C n B M WP) (Sp P ty Wg C n B M WP K r) ids) mm gT (gw W l)->MS ids l (.sp (r+1) 1) (r+1) (m+mm+1) 0 g W
 |c2 {r m:Nat} {g:aG} {W:ah}:(Goes P true (Ro Wg C n B (λi=>¬M i)) (Dg Wg C n B (λi=>¬M i))) ((AtGo P ty Wg C n B M WP) (Sp P ty Wg C n B M WP K r) ids) m g (gw W l)->MS ids l (.sp (r+1) 1) (r+1) m 0 g W
 |c0 {m:Nat} {g:aG} {W:ah}:(Goes P true (Ro Wg C n B (λi=>¬M i)) (Dg Wg C n B (λi=>¬M i))) (al5 P ty Wg K ids) m g (gw W l)->MS ids l (.sp 0 7) 0 m 0 g W
 |kd {m:Nat} {g gT:aG} {An:aG->ah->Prop} {W:ah}:(∀g w,An g w->g.status=.running)->(∀g w,An g w->∃m,(Goes P true (RL ty Wg) DC0) (WW1 P ty Wg gT An) m g w)->(Goes P true (RL ty Wg) DC0) (WKd P ty Wg An) m g W->K ids gT (gw W l)->MS ids l .kd 0 m 0 g W
 |anch {m:Nat} {g gT:aG} {An:aG->ah->Prop} {W:ah}:(∀g w,An g w->g.status=.running)->(∀g w,An g w->∃m,(Goes P true (RL ty Wg) DC0) (WW1 P ty Wg gT An) m g w)->(Goes P true (RL ty Wg) DC0) An m g W->K ids gT (gw W l)->MS ids l .anch 0 m 1 g W
 |w1 {m:Nat} {g gT:aG} {An:aG->ah->Prop} {W:ah}:(∀g w,An g w->g.status=.running)->(∀g w,An g w->∃m,(Goes P true (RL ty Wg) DC0) (WW1 P ty Wg gT An) m g w)->(Goes P true (RL ty Wg) DC0) (WW1 P ty Wg gT An) m g W->K ids gT (gw W l)->MS ids l .w1 0 m 1 g W
 |w2 {vs m:Nat} {g gT:aG} {An:aG->ah->Prop} {W:ah}:(∀g w,An g w->g.status=.running)->(∀g w,An g w->∃m,(Goes P true (RL ty Wg) DC0) (WW1 P ty Wg gT An) m g w)->(Goes P true (RL ty Wg) DC0) (WW2 P ty Wg gT An vs) m g W->K ids gT (gw W l)->MS ids l (.w2 vs) 0 m 1 g W
 |wr {m:Nat} {g gT:aG} {W:ah}:(Goes P true (RL ty Wg) DC0) (WWr P ty Wg gT) m g W->K ids gT (gw W l)->MS ids l .w3 0 (m+62) 1 g W
 |w3 {m:Nat} {g gT:aG} {W:ah}:(Goes P true (RL ty Wg) DC0) (WW3 P ty Wg gT) m g W->K ids gT (gw W l)->MS ids l .w3 0 (m+1) 1 g W
 |blk {g gT:aG} {W:ah}:(∀W₁,RL ty Wg W W₁->WW3 P ty Wg gT g W₁)->K ids gT (gw W l)->MS ids l .blk 0 0 1 {g with status:=.blocked} W
 |w4 {m:Nat} {g gT:aG} {W:ah}:(Goes P true (RL ty Wg) DC0) (WW4 P ty Wg gT) m g W->K ids gT (gw W l)->MS ids l .w4 0 m 1 g W
 |ke {m:Nat} {g gT:aG} {W:ah}:(Goes P true (RL ty Wg) DC0) (WKe P ty Wg gT) m g W->K ids gT (gw W l)->MS ids l .ke 0 m 1 g W
 |acq {m:Nat} {g gT:aG} {W:ah}:(Goes P true (RL ty Wg) DC0) (arv P ty Wg gT) m g W->K ids gT (gw W l)->MS ids l .acq 0 m 0 g W
 |ret {m:Nat} {g gT:aG} {W:ah}:(Goes P true (RL ty Wg) DC0) (ajL gT) m g W->K ids gT (gw W l)->MS ids l .ret 0 m 0 g W
end
omit [Payload][rq]in
theorem CS(ty:aF)(Wg:Nat)(w:ah):RL ty Wg w w:=id
omit [Payload][rq]in
theorem ajN(ty:aF)(Wg:Nat):∀a b c,RL ty Wg a b->RL ty Wg b c->RL ty Wg a c:=λ_ _ _ h h'=>h'∘h
section
variable {P:aN}{ty:aF}{Wg C n B:Nat}{M:Nat->Prop}{WP:Nat->ai->ah->Prop}{K:aA->aG->ah->Prop}
 {lo l ids:aA} {Cm:Nat->Prop} {W W':ah} {idx s m d r f:Nat} {g:aG} {tag:CTag}
theorem WS.rely(hWP:∀v w w₁,Ro Wg C n B (λ_=>False) w w₁->WP idx v w->WP idx v w₁)(h:WS P ty Wg C n B WP idx l s m d g W)(hc:QN ty Wg C n lo Cm W W')(hB:B<=W.heap.size)(hlo:∀b∈lo,B<=b)
  (hl:∀b∈l,b∉lo/\b<W.heap.size/\b≠C/\b≠Wg) (hCm:¬Cm idx):WS P ty Wg C n B WP idx l s m d g W':=by
 have K_:Ro Wg C n B (· =idx) (gw W l) (gw W' l):=hc.ro hB hlo hl (λi hi=>by subst hi;exact hCm);cases h with
 |comp h=>
  have tr:∀a b c,Ro Wg C n B (· =idx) a b->Ro Wg C n B (· =idx) b c->Ro Wg C n B (· =idx) a c:=λ_ _ _ a b=>Ro.trans a b
  exact .comp (dH tr h K_)
 |lib h1 h2 h3 h4=>exact .lib (h1.rely ⟨λb hb=>ag,hc.live,hc.pay,by simpa using hc.cells idx hCm⟩) h2 (hWP _ _ _ (hc.ro hB hlo hl (λ_=>False.elim)) h3) (λh=>(hc.cells idx hCm).trans (h4 h))
theorem WS.status(h:WS P ty Wg C n B WP idx l s m d g W):g.status=.running\/g.status=.finished:=by
 cases h with
 |comp h=>
  refine .inl (Goes.running (λ_ _ x=>x.1) (gw W l) ⟨az _,rfl,rfl,?_,λb=>?_,λ_ _ _ _=>rfl,λ_ _=>rfl,λ_ _=>rfl,id⟩ h)
  .unfold gw;rw[x8];rfl
  .rw[yZ];unfold gw;rw[vP]
 |lib h1 _ _ _=>exact h1.status
theorem WS.woken(h:WS P ty Wg C n B WP idx l s m d g W)(a a':aG)(w':ah):woken P a a' w' g=g:=by
 unfold Go.Conc.woken;split
 .exact again_running _ h.status
 .rfl
theorem WS.quits(h:WS P ty Wg C n B WP idx l 1 m d g W):QuitsD P m d g:=by
 cases h with
 |lib h1 _ _ _=>exact h1.quits rfl
omit [rq]in
theorem Ij(W:ah)(l:aA)(Cl:Nat->Prop):Ro Wg C n B Cl (gw W l) (gw W l):=by
 refine⟨az _,rfl,rfl,?_,λb=>?_,λ_ _ _ _=>rfl,λ_ _=>rfl,λ_ _=>rfl,id⟩
 .unfold gw;rw[x8];rfl
 .rw[yZ];unfold gw;rw[vP]
theorem MS.rely(hK:∀ids g w w₁,Ro Wg C n B (λi=>¬M i) w w₁->K ids g w->K ids g w₁)(h:MS P ty Wg C n B M WP K ids l tag r f d g W)(hc:QN ty Wg C n lo Cm W W')(hB:B<=W.heap.size)(hlo:∀b∈lo,B<=b)
  (hl:∀b∈l,b∉lo/\b<W.heap.size/\b≠C/\b≠Wg) (hCm:∀i,Cm i->M i):MS P ty Wg C n B M WP K ids l tag r f d g W':=by
 have K_:Ro Wg C n B (λi=>¬M i) (gw W l) (gw W' l):=hc.ro hB hlo hl (λi hi hm=>hi (hCm i hm));have tr:∀a b c,Ro Wg C n B (λi=>¬M i) a b->Ro Wg C n B (λi=>¬M i) b c->Ro Wg C n B (λi=>¬M i) a c:=λ_ _ _ a b=>Ro.trans a b
 have Za:RL ty Wg W W':=hc.live;have tl:=ajN ty Wg;cases h with
 |c1 h=>exact .c1 (dH tr h K_)
 |kd1 h h'=>exact .kd1 (dH tl h Za) (dH tr h' K_)
 |a1 h h'=>exact .a1 (dH tl h Za) (dH tr h' K_)
 |rd1 h h'=>exact .rd1 (dH tl h Za) (dH tr h' K_)
 |ke1 h h'=>exact .ke1 (dH tl h Za) (dH tr h' K_)
 |en1 h h'=>exact .en1 (dH tl h Za) (dH tr h' K_)
 |c2 h=>exact .c2 (dH tr h K_)
 |c0 h=>exact .c0 (dH tr h K_)
 |kd a b h k=>exact .kd a b (dH tl h Za) (hK _ _ _ _ K_ k)
 |anch a b h k=>exact .anch a b (dH tl h Za) (hK _ _ _ _ K_ k)
 |w1 a b h k=>exact .w1 a b (dH tl h Za) (hK _ _ _ _ K_ k)
 |w2 a b h k=>exact .w2 a b (dH tl h Za) (hK _ _ _ _ K_ k)
 |wr h k=>exact .wr (dH tl h Za) (hK _ _ _ _ K_ k)
 |w3 h k=>exact .w3 (dH tl h Za) (hK _ _ _ _ K_ k)
 |blk h k=>exact .blk (λW₂ h₂=>h W₂ (h₂∘Za)) (hK _ _ _ _ K_ k)
 |w4 h k=>exact .w4 (dH tl h Za) (hK _ _ _ _ K_ k)
 |ke h k=>exact .ke (dH tl h Za) (hK _ _ _ _ K_ k)
 |acq h k=>exact .acq (dH tl h Za) (hK _ _ _ _ K_ k)
 |ret h k=>exact .ret (dH tl h Za) (hK _ _ _ _ K_ k)
theorem MS.status(h:MS P ty Wg C n B M WP K ids l tag r f d g W):(g.status=.running/\tag≠.blk)\/(g.status=.blocked/\tag=.blk):=by
 have r0:=Ij (Wg:=Wg) (C:=C) (n:=n) (B:=B) W l (λi=>¬M i);have rl:=CS ty Wg W;cases h with
 |c1 h=>exact .inl ⟨Goes.running (λ_ _ x=>x.1) _ r0 h,ax⟩
 |kd1 h _=>exact .inl ⟨Goes.running (λ_ _ x=>x.1) _ rl h,ax⟩
 |a1 h _=>exact .inl ⟨Goes.running (λ_ _ x=>x.1) _ rl h,ax⟩
 |rd1 h _=>exact .inl ⟨Goes.running (λ_ _ x=>x.1) _ rl h,ax⟩
 |ke1 h _=>exact .inl ⟨Goes.running (λ_ _ x=>x.1) _ rl h,ax⟩
 |en1 h _=>exact .inl ⟨Goes.running (λ_ _ x=>x.1) _ rl h,ax⟩
 |c2 h=>exact .inl ⟨Goes.running (λ_ _ x=>x.1) _ r0 h,ax⟩
 |c0 h=>exact .inl ⟨Goes.running (λ_ _ x=>x.1) _ r0 h,ax⟩
 |kd _ _ h _=>exact .inl ⟨Goes.running (λ_ _ x=>x.1) _ rl h,ax⟩
 |anch hr _ h _=>exact .inl ⟨Goes.running hr _ rl h,ax⟩
 |w1 _ _ h _=>exact .inl ⟨Goes.running (λ_ _ x=>x.1) _ rl h,ax⟩
 |w2 _ _ h _=>exact .inl ⟨Goes.running (λ_ _ x=>x.1) _ rl h,ax⟩
 |wr h _=>exact .inl ⟨Goes.running (λ_ _ x=>x.1) _ rl h,ax⟩
 |w3 h _=>exact .inl ⟨Goes.running (λ_ _ x=>x.1) _ rl h,ax⟩
 |blk h _=>exact .inr ⟨rfl,rfl⟩
 |w4 h _=>exact .inl ⟨Goes.running (λ_ _ x=>x.1) _ rl h,ax⟩
 |ke h _=>exact .inl ⟨Goes.running (λ_ _ x=>x.1) _ rl h,ax⟩
 |acq h _=>exact .inl ⟨Goes.running (λ_ _ x=>x.1) _ rl h,ax⟩
 |ret h _=>exact .inl ⟨Goes.running (λ_ _ x=>x.1) _ rl h,ax⟩
theorem MS.wokenBy(h:MS P ty Wg C n B M WP K ids l tag r f d g W)(a a':aG):
  ∃tag' f',MS P ty Wg C n B M WP K ids l tag' r f' d (Go.Conc.woken P a a' W g) W/\f'<=f+1/\(tag'=tag\/(tag=.blk/\tag'=.w3))/\(mayWake P a=true->a'.status=.running->tag'≠.blk):=by
 unfold Go.Conc.woken;split
 .rcases h.status with⟨hs,hne⟩|⟨_,rfl⟩
  .exact⟨tag,f,by rw[again_running _ (.inl hs)];exact h,ag,.inl rfl,λ_ _=>hne⟩
  .cases h with
   |blk hb k=>
    have h3:=hb W (CS ty Wg W);exact⟨.w3,0+1,by rw[again_blocked h3.1 h3.2.1];exact .w3 (dF hb) k,ag,.inr ⟨rfl,rfl⟩,λ_ _=>ax⟩
 .rename_i hc;exact⟨tag,f,h,ag,.inl rfl,λh1 h2=>absurd (by simp[h1,h2]) hc⟩
end
end Go.Gh
namespace Go.Gh
open Go.Conc Go.ConcN
open Go.ConcR (KK WgAt stA smA rd wr mk Payload DC0 g_of_ofEvents)
variable [rq][sF]
def H_(Wg:Nat)(l:Loc):Prop:=ShN Wg l\/∃a:Addr,l=.cell a/\rq.old a.block
def Xg(C j:Nat)(ix:Nat->Nat)(ow:Nat->aA)(k:Nat)(l:Loc):Prop:=sF.el<k/\k<=j/\∃a:Addr,l=.cell a/\(a.block∈ow (k-1)\/a=⟨C,ix (k-1),none⟩)
def RdF(Wg C B:Nat)(k:Nat)(l:Loc):Prop:=sF.el<k/\∃a:Addr,l=.cell a/\a.block<B/\a.block≠Wg/\a.block≠C/\¬rq.old a.block
class yO where
 o0:Array (Nat×ByteArray)
 os0:Os
structure Gm(Wg C B:Nat)(M:Nat->Prop)(j:Nat)(ix:Nat->Nat)(ow:Nat->aA)(l0:aA)(sz:Nat):Prop where
 hW:Wg<B
 hC:C<B
 hCW:C≠Wg
 hB:B<=sz
 own:∀i,i<j->∀b∈ow i,B<=b/\b<sz
 DD:∀b∈l0,B<=b/\b<sz
 dis:∀i i' b,i<j->i'<j->b∈ow i->b∈ow i'->i=i'
 abJ:∀i b,i<j->b∈ow i->b∉l0
 ixd:∀i i',sF.el<=i->sF.el<=i'->i<j->i'<j->ix i=ix i'->i=i'
 ixM:∀i,sF.el<=i->i<j->M (ix i)
 hel:sF.el<=j
 old:∀b,rq.old b->b<B/\b≠C
section
variable {Wg C B:Nat}{M:Nat->Prop}{j:Nat}{ix:Nat->Nat}{ow:Nat->aA}{l0:aA}{sz sz':Nat}
theorem Gm.apart(h:Gm Wg C B M j ix ow l0 sz):Apart (H_ Wg) (Xg C j ix ow) (RdF Wg C B):=by
 have hC:=h.hC;refine⟨λk k' l ⟨h1,h2,a,e,x⟩ ⟨h1',h2',a',e',x'⟩=>?_,λk k' l ⟨h1,h2,a,e,x⟩ ⟨_,a',e',y1,y2,y3,_⟩=>?_,λk l ⟨h1,h2,a,e,x⟩ hsh=>?_,λk l ⟨_,a,e,y1,y2,y3,y4⟩ hsh=>?_⟩
 .obtain rfl:a=a':=mV;rcases x with x|x<;>rcases x' with x'|x'
  .have:=h.dis (k-1) (k'-1) _ ag ag x x';omega
  .have:=h.own (k-1) ag _ x;rw[x']at this;exact ayu
  .have:=h.own (k'-1) ag _ x';rw[x]at this;exact ayu
  .rw[x]at x';have:=h.ixd (k-1) (k'-1) ag ag ag ag (by injection x');omega
 .obtain rfl:a=a':=mV;rcases x with x|x
  .have:=h.own (k-1) ag _ x;omega
  .rw[x]at y3;exact y3 rfl
 .obtain⟨a',e',y⟩|⟨a',e',y⟩:=hsh
  .obtain rfl:a=a':=mV;have:=h.hW;rcases x with x|x
   .have:=h.own (k-1) ag _ x;omega
   .rw[x]at y;exact h.hCW y
  .obtain rfl:a=a':=mV;have hy:=h.old _ y;rcases x with x|x
   .have:=h.own (k-1) ag _ x;omega
   .rw[x]at hy;exact hy.2 rfl
 .obtain⟨a',e',y⟩|⟨a',e',y⟩:=hsh
  .obtain rfl:a=a':=mV;exact y2 y
  .obtain rfl:a=a':=mV;exact y4 y
theorem Gm.arw(h:Gm Wg C B M j ix ow l0 sz)(hs:sz<=sz'){i:Nat}(hi:i<j):Gm Wg C B M j ix (upd ow i (ow i++fresh sz sz')) l0 sz':=by
 have hB:=h.hB
 have mem:∀a b,a<j->b∈upd ow i (ow i++fresh sz sz') a->(b∈ow a/\b<sz)\/(a=i/\sz<=b/\b<sz'):=by
  intro a b ha hb;by_cases e:a=i
  .subst e;rw[upd_same,lV,Ey]at hb;exact hb.elim (λx=>.inl ⟨x,(h.own a ha b x).2⟩) λx=>.inr ⟨rfl,x⟩
  .rw[upd_ne ow _ e]at hb;exact .inl ⟨hb,(h.own a ha b hb).2⟩
 refine⟨h.hW,h.hC,h.hCW,ag,λa ha b hb=>?_,λb hb=>by have:=h.DD b hb;omega,λa a' b ha ha' hb I9=>?_,λa b ha hb xB=>?_,h.ixd,h.ixM,h.hel,h.old⟩
 .rcases mem a b ha hb with⟨x,y⟩|⟨_,x⟩
  .have:=h.own a ha b x;omega
  .omega
 .rcases mem a b ha hb with⟨x,y⟩|⟨x,y⟩<;>rcases mem a' b ha' I9 with⟨x',y'⟩|⟨x',y'⟩
  .exact h.dis a a' b ha ha' x x'
  .omega
  .omega
  .omega
 .rcases mem a b ha hb with⟨x,y⟩|⟨x,y⟩
  .exact h.abJ a b ha x xB
  .have:=h.DD b xB;omega
theorem Gm.arx(h:Gm Wg C B M j ix ow l0 sz)(hs:sz<=sz'):Gm Wg C B M j ix ow (l0++fresh sz sz') sz':=by
 have hB:=h.hB;refine⟨h.hW,h.hC,h.hCW,ag,λa ha b hb=>by have:=h.own a ha b hb;omega,λb hb=>?_,h.dis,λa b ha hb xB=>?_,h.ixd,h.ixM,h.hel,h.old⟩
 .rw[lV,Ey]at hb;rcases hb with hb|hb
  .have:=h.DD b hb;omega
  .omega
 .rw[lV,Ey]at xB;have:=h.own a ha b hb;exact xB.elim (h.abJ a b ha hb) ag
theorem Gm.fork(h:Gm Wg C B M j ix ow l0 sz){idx:Nat}{l l0':aA}(hl:∀b∈l,b∈l0)(hl0:∀b,b∈l0'↔b∈l0/\b∉l)(hi:∀i,sF.el<=i->i<j->ix i≠idx)(hM:M idx):
  Gm Wg C B M (j+1) (upd ix j idx) (upd ow j l) l0' sz:=by
 have mem:∀a b,a<j+1->b∈upd ow j l a->(a<j/\b∈ow a)\/(a=j/\b∈l):=by
  intro a b ha hb;by_cases e:a=j
  .subst e;rw[upd_same]at hb;exact .inr ⟨rfl,hb⟩
  .rw[upd_ne ow _ e]at hb;exact .inl ⟨ag,hb⟩
 refine⟨h.hW,h.hC,h.hCW,h.hB,λa ha b hb=>?_,λb hb=>h.DD b ((hl0 b).1 hb).1,λa a' b ha ha' hb I9=>?_,λa b ha hb xB=>?_,λa a' la la' ha ha' e=>?_,λa la ha=>?_,by have:=h.hel;omega,h.old⟩
 .rcases mem a b ha hb with⟨x,y⟩|⟨_,y⟩
  .exact h.own a x b y
  .exact h.DD b (hl b y)
 .rcases mem a b ha hb with⟨x,y⟩|⟨x,y⟩<;>rcases mem a' b ha' I9 with⟨x',y'⟩|⟨x',y'⟩
  .exact h.dis a a' b x x' y y'
  .exact absurd (hl b y') (h.abJ a b x y)
  .exact absurd (hl b y) (h.abJ a' b x' y')
  .omega
 .have xB:=(hl0 b).1 xB;rcases mem a b ha hb with⟨x,y⟩|⟨x,y⟩
  .exact h.abJ a b x y xB.1
  .exact xB.2 y
 .by_cases e1:a=j<;>by_cases e2:a'=j
  .omega
  .subst e1;rw[upd_same,upd_ne ix _ e2]at e;exact absurd e.symm (hi a' la' ag)
  .subst e2;rw[upd_same,upd_ne ix _ e1]at e;exact absurd e (hi a la ag)
  .rw[upd_ne ix _ e1,upd_ne ix _ e2]at e;exact h.ixd a a' la la' ag ag e
 .by_cases e:a=j
  .subst e;rw[upd_same];exact hM
  .rw[upd_ne ix _ e];exact h.ixM a la ag
end
omit [rq][sF]in
theorem afs{Sh:Loc->Prop}{Own Own' Rd:Nat->Loc->Prop}{t:Trace}{j:Nat}(h:CT Sh Own Rd t j)(h1:∀k l,1<=k->k<=j->Own k l->Own' k l)
  (h2:∀k l,1<=k->k<=j->Own' k l->Own k l\/∀i a,touchAt t i=some a->a.loc≠l):CT Sh Own' Rd t j:=
 ⟨h.quiet,λk k1 kj l hl=>(h2 k l k1 kj hl).elim (h.own k k1 kj l) λhn i a ha e=>absurd e (hn i a ha),h.rd,
  λl hs hl=>h.free l hs λk k1 kj=>⟨λho=>(hl k k1 kj).1 (h1 k l k1 kj ho),(hl k k1 kj).2⟩,λl hs hl=>h.mine l hs λk k1 kj ho=>hl k k1 kj (h1 k l k1 kj ho),h.nr,h.gs⟩
def Vp(Wg sz:Nat)(act:MemAct):Prop:=∀x,act.touch?=some x->(∀ad,x.loc=.cell ad->ad.block<sz)/\(x.kind=.atomic->ShN Wg x.loc)/\x.loc.isMemory=true
omit [rq][sF]in
theorem Ez{Wg sz:Nat}{act:MemAct}(h:act.touch?=none):Vp Wg sz act:=λx hx=>by rw[h]at hx;cases hx
omit [rq][sF]in
theorem Yx{Wg sz:Nat}(a:Addr)(x:Bool)(h:a.block<sz):Vp Wg sz (MemAct.ofEvent ⟨.cell a,x,false⟩):=by
 intro z hz;rw[Go.ConcR.ofEvent_cell]at hz;simp only[MemAct.touch?,iE]at hz;subst hz;refine⟨λad e=>?_,λe=>?_,rfl⟩
 .simp only[Loc.cell.injEq]at e;subst e;exact h
 .simp at e
omit [rq][sF]in
theorem amP{Wg sz:Nat}(a:Addr)(x y:Bool)(ha:a.block=Wg)(h:Wg<sz):Vp Wg sz (MemAct.ofEvent ⟨.cell a,x,y⟩):=by intro z hz;rw[Go.ConcR.ofEvent_cell]at hz;simp only[MemAct.touch?,iE]at hz;subst hz;refine⟨λad e=>?_,λ_=>⟨a,rfl,ha⟩,rfl⟩;simp only[Loc.cell.injEq]at e;subst e;omega
omit [rq]in
def abK(Wg sz:Nat)(op:MemOp):Prop:=∀x,op.act.touch?=some x->(∀ad,x.loc=.cell ad->ad.block<sz)/\(sF.el<op.g->x.kind=.atomic->ShN Wg x.loc)/\(op.g≠0->x.loc.isMemory=true)
omit [rq]in
theorem Vp.g{Wg sz:Nat}{op:MemOp}(h:Vp Wg sz op.act):abK Wg sz op:=λx hx=>⟨(h x hx).1,λ_=>(h x hx).2.1,λ_=>(h x hx).2.2⟩
omit [rq]in
theorem agQ{Wg a b:Nat}(h:a<=b){op:MemOp}(hl:abK Wg a op):abK Wg b op:=λx hx=>⟨λad e=>bG ((hl x hx).1 ad e) h,(hl x hx).2⟩
omit [rq]in
theorem agR{t:Trace}{Wg sz:Nat}(h:∀op∈t,abK Wg sz op){i:Nat}{a:Touch}(ha:touchAt t i=some a){ad:Addr}(e:a.loc=.cell ad):ad.block<sz:=by obtain⟨x,hx,hxa⟩:=touch_of ha;exact(h x (fZ hx) a hxa).1 ad e
def aft(Wg:Nat)(t:Trace):Prop:=∀(i:Nat)(op:MemOp)(x:Touch),t[i]?=some op->op.act.touch?=some x->x.loc.isMemory=true->op.g≠0->op.g<=sF.el->Knows t 0 i\/(H_ Wg x.loc/\x.kind=.atomic)
def afu(t:Trace):Prop:=∀i g,t.g? i=some g->g≠0->g<=sF.el->t.counts i->∃q,t.g? q=some 0/\HappensBefore t i q
def O7(u:Trace):Prop:=∀op∈u,op.g=0\/sF.el<op.g\/op.act.touch?=none
theorem aft.app{Wg:Nat}{t u:Trace}(h:aft Wg t)(hu:O7 u):aft Wg (t++u):=by
 intro i op x hi hx hm h0 he;rcases getElem?_append_cases hi with⟨_,La⟩|⟨_,hiu⟩
 .exact(h i op x La hx hm h0 he).imp (·.app u) id
 .rcases hu op hiu with h1|h1|h1
  .exact absurd h1 h0
  .omega
  .rw[h1]at hx;cases hx
omit [rq]in
theorem afu.app{t u:Trace}(h:afu t)(hu:O7 u):afu (t++u):=by
 intro i g hg hne he hc;obtain⟨x,hx,hx'⟩:=hc;obtain⟨op,uT,hox⟩:=touch_of hx;rcases getElem?_append_cases uT with⟨hi,asz⟩|⟨_,aqv⟩
 .obtain⟨j,hj,hb⟩:=h i g (by simpa[Trace.g?,getElem?_append_old hi]using hg) hne he ((counts_old hi).1 ⟨x,hx,hx'⟩)
  have Oq:j<t.size:=by unfold Trace.g? at hj;obtain⟨z,hz,_⟩:=dL.1 hj;exact lt_size_of_getElem? hz
  exact⟨j,by simpa[Trace.g?,getElem?_append_old Oq]using hj,hb_app u hb⟩
 .have e:op.g=g:=by simpa[Trace.g?,uT]using hg
  rcases hu op aqv with h1|h1|h1
  .omega
  .omega
  .rw[h1]at hox;cases hox
omit [rq]in
theorem Ik{i:Nat}{fn:aU}{pos:String}{es:aH}(h:i=0\/sF.el<i):O7 (MemOp.ofEvents i fn pos es):=λop uT=>by obtain⟨e,_,rfl⟩:=Go.Conc.mem_ofEvents uT;exact h.imp id .inl
omit [sF]in
theorem ajO{Wg:Nat}{Own Rd:Nat->Loc->Prop}{k:Nat}{fn:aU}{pos:String}{es:aH}(h:∀e∈es,Go.ConcR.Bk Wg e):∀op∈MemOp.ofEvents k fn pos es,OkW (H_ Wg) Own Rd k op:=
 λop uT=>let y:=okW_of_Bk h op uT;⟨y.1,λx hx=>(y.2 x hx).imp (λz=>⟨.inl z.1,z.2⟩) id⟩
omit [sF]in
theorem amQ{Wg:Nat}{Own Rd:Nat->Loc->Prop}{k:Nat}{fn:aU}{pos:String}{es:aH}(h:∀e∈es,(MemAct.ofEvent e).touch?=none):∀op∈MemOp.ofEvents k fn pos es,OkW (H_ Wg) Own Rd k op:=λop uT=>by obtain⟨e,he,rfl⟩:=Go.Conc.mem_ofEvents uT;exact⟨rfl,λx hx=>by simp only[h e he]at hx;cases hx⟩
omit [sF]in
theorem apC{Wg j:Nat}{Own Rd:Nat->Loc->Prop}{fn:aU}{pos:String}{es:aH}(h:∀e∈es,Go.ConcR.Bk Wg e):∀op∈MemOp.ofEvents 0 fn pos es,Ok0 (H_ Wg) Own Rd j op:=λop uT=>by
 obtain⟨e,he,rfl⟩:=Go.Conc.mem_ofEvents uT;refine⟨rfl,λx hx=>?_⟩;rcases h e he with h1|h1|⟨a,wr,rfl,ha⟩
 .exact azm
 .exact azm
 .simp only[Go.ConcR.ofEvent_cell,MemAct.touch?,iE]at hx;subst hx;exact .inl ⟨.inl ⟨a,rfl,ha⟩,ax⟩
omit [sF]in
theorem ZX{Wg:Nat}{b:Addr}(h1:b.block≠Wg)(h2:¬rq.old b.block):¬H_ Wg (.cell b):=λh=>
 h.elim (λ⟨a,e,y⟩=>by obtain rfl:=fF e;exact h1 y) (λ⟨a,e,y⟩=>by obtain rfl:=fF e;exact h2 y)
def ZY(Wg:Nat)(t:Trace):Prop:=∀i,sF.ts<=i->t.act? i≠some (.mark (.release (stA Wg)))
omit [rq]in
theorem ZY.app{Wg:Nat}{t u:Trace}(h:ZY Wg t)(hu:∀op∈u,op.act≠.mark (.release (stA Wg))):ZY Wg (t++u):=λi hi e=>by
 obtain⟨op,uT,hoe⟩:=dL.1 e;rcases getElem?_append_cases uT with⟨_,asz⟩|⟨_,aqv⟩
 .exact h i hi (by unfold Trace.act?;rw[asz];exact bI some hoe)
 .exact hu op aqv hoe
omit [rq]in
def NP(Wg j:Nat)(t:Trace):Prop:=
 ∃q,t.act? q=some (.mark (.acquire (stA Wg)))/\t.g? q=some 0/\t.heard q/\∀i,sF.el<=i->i<j->∃r,RelBy (stA Wg) t (i+1) r/\r<q/\sF.ts<=r
omit [rq]in
theorem NP.app{Wg j:Nat}{t u:Trace}(h:NP Wg j t)(hu:∀i r,sF.el<=i->i<j->RelBy (stA Wg) t (i+1) r->RelBy (stA Wg) (t++u) (i+1) r):NP Wg j (t++u):=by obtain⟨q,h1,h2,h3,h4⟩:=h;have hq:=lt_of_act? h1;exact⟨q,by rw[act?_old hq];exact h1,by rw[g?_old hq];exact h2,(heard_old hq).2 h3,λi hl hi=>let⟨r,hr,hrq⟩:=h4 i hl hi;⟨r,hu i r hl hi hr,hrq⟩⟩
end Go.Gh
namespace Go.Gh
open Go.Conc Go.ConcN
open Go.ConcR (KK WgAt stA smA rd wr mk Payload DC0 g_of_ofEvents Bk)
variable [Payload][rq][sF][yO]
section
variable (P:aN)(ty:aF)(Wg C n B:Nat)(M:Nat->Prop)(WP:Nat->ai->ah->Prop)
structure Cm(j:Nat)(gs:dE)(W:ah)(t:Trace)(D:Nat->WD)(ix:Nat->Nat)(ow:Nat->aA)(l0:aA)(d0:Nat):Prop where
 size:gs.size=j+1
 wk:∀i,sF.el<=i->i<j->∃g,gs[i+1]?=some g/\WS P ty Wg C n B WP (ix i) (ow i) (D i).stage (D i).fuel (D i).deaf g W
 eld:∀i,i<sF.el->∃g,gs[i+1]?=some g/\(D i).stage=1/\QuitsD P (D i).fuel (D i).deaf g
 past:aft Wg t
 over:afu t
 ct:CT (H_ Wg) (Xg C j ix ow) (RdF Wg C B) t j
 norel:ZY Wg t
 hts:sF.ts<=t.size
 low:∀op∈t,abK Wg W.heap.size op
 deaf0:Deaf t 0=d0
 deafW:∀i,i<j->Deaf t (i+1)=(D i).deaf
 rel:∀i,sF.el<=i->i<j->(D i).stage<=6->∃r,RelBy (stA Wg) t (i+1) r/\sF.ts<=r
 pay:PayAt C n W
 gm:Gm Wg C B M j ix ow l0 W.heap.size
 out:W.output=yO.o0
 os:W.os=yO.os0
end
section
variable {P:aN}{ty:aF}{Wg C n B:Nat}{M:Nat->Prop}{WP:Nat->ai->ah->Prop}{j:Nat}{gs:dE}{W W':ah}{t:Trace}{D:Nat->WD}{ix:Nat->Nat}{ow:Nat->aA}{l0:aA}{d0:Nat}
omit [Payload][rq][sF][yO]in
theorem abL{P:aN}{main:Bool}{g g':aG}{es:aH}(h:stepG P main g W=.go g' W' es):W'.output=W.output:=(Ii P W.output (w:=W) h).2
omit [Payload][rq][yO]in
theorem Un{u:Trace}{a b:Nat}(h:∀op∈t,abK Wg a op)(hab:a<=b)(hu:∀op∈u,Vp Wg b op.act):∀op∈t++u,abK Wg b op:=λop uT=>(nU.1 uT).elim (λx=>agQ hab (h op x)) (λx=>(hu op x).g)
theorem Cm.at(hWP:∀idx v w w₁,Ro Wg C n B (λ_=>False) w w₁->WP idx v w->WP idx v w₁)(h:Cm P ty Wg C n B M WP j gs W t D ix ow l0 d0)(d:Nat):Cm P ty Wg C n B M WP j gs (W.at d) t D ix ow l0 d0:=
 ⟨h.size,λi MF hi=>let⟨g,hg,hs⟩:=h.wk i MF hi
  ⟨g,hg,hs.rely (hWP _) (lo:=[]) (Cm:=λ_=>False) (QN.at W d) h.gm.hB ax (λb hb=>⟨ax,(h.gm.own i hi b hb).2,by have:=(h.gm.own i hi b hb).1;have:=h.gm.hC;omega,by have:=(h.gm.own i hi b hb).1;have:=h.gm.hW;omega⟩) id⟩,h.eld,h.past,h.over,h.ct,h.norel,h.hts,h.low,h.deaf0,h.deafW,h.rel,h.pay,h.gm,h.out,h.os⟩
omit [Payload][yO]in
theorem agS(hl:∀op∈t,abK Wg W.heap.size op)(BD:CT (H_ Wg) (Xg C j ix ow) (RdF Wg C B) t j)(i:Nat):
  CT (H_ Wg) (Xg C j ix (upd ow i (ow i++fresh W.heap.size W'.heap.size))) (RdF Wg C B) t j:=by
 refine afs BD (λk l _ kj ⟨k1,_,a,e,x⟩=>⟨k1,kj,a,e,x.imp (λy=>?_) id⟩) (λk l _ kj ⟨k1,_,a,e,x⟩=>?_)
 .by_cases ek:k-1=i
  .rw[ek,upd_same];rw[ek]at y;exact avV _ y
  .rw[upd_ne ow _ ek];exact y
 .rcases x with x|x
  .by_cases ek:k-1=i
   .rw[ek,upd_same,lV,Ey]at x;rcases x with x|x
    .exact .inl ⟨k1,kj,a,e,.inl (by rw[ek];exact x)⟩
    .exact .inr λi' b hb e'=>by have:=agR hl hb (e'.trans e);omega
   .rw[upd_ne ow _ ek]at x;exact .inl ⟨k1,kj,a,e,.inl x⟩
  .exact .inl ⟨k1,kj,a,e,.inr x⟩
theorem Cm.stepW(hWP:∀idx v w w₁,Ro Wg C n B (λ_=>False) w w₁->WP idx v w->WP idx v w₁)(h:Cm P ty Wg C n B M WP j gs W t D ix ow l0 d0){i:Nat}(MF:sF.el<=i)(hi:i<j){g g':aG}{fn:aU}{pos:String}{es:aH}{s' m' dd':Nat}
  (hc:QN ty Wg C n (ow i) (· =ix i) W W') (xU:WS P ty Wg C n B WP (ix i) (ow i++fresh W.heap.size W'.heap.size) s' m' dd' g' W')
  (Em:∀op∈MemOp.ofEvents (i+1) fn pos es,OkW (H_ Wg) (Xg C j ix (upd ow i (ow i++fresh W.heap.size W'.heap.size))) (RdF Wg C B) (i+1) op) (uI:∀e∈es,Vp Wg W'.heap.size (MemAct.ofEvent e))
  (hnr:∀e∈es,e.loc≠.mark (.release (stA Wg))) (alx:deafBehind (D i).deaf es=dd')
  (hrel:s'<=6->∃r,RelBy (stA Wg) (t++MemOp.ofEvents (i+1) fn pos es) (i+1) r/\sF.ts<=r) (ho:W'.output=W.output):
  Cm P ty Wg C n B M WP j ((gs.map (woken P g g' W')).setIfInBounds (i+1) g') W' (t++MemOp.ofEvents (i+1) fn pos es) (upd D i ⟨s',m',dd'⟩) ix (upd ow i (ow i++fresh W.heap.size W'.heap.size)) l0 d0:=by
 have gm':=h.gm.arw (sz':=W'.heap.size) hc.size hi
 refine⟨kG,λi' FI La=>?_,λi' FI=>?_,h.past.app (Ik (.inr ag)),h.over.app (Ik (.inr ag)),(agS h.low h.ct i).appW gm'.apart ag ag Em,h.norel.app (norel_of hnr),avA,
  Un h.low hc.size (λop uT=>by obtain⟨e,he,rfl⟩:=Go.Conc.mem_ofEvents uT;exact uI e he),axS,λi' La=>?_,λi' FI La uw=>?_,hc.pay h.pay,gm',ho.trans h.out,hc.os.trans h.os⟩
 rotate_left
 .obtain⟨x,hx,Gy,Ug⟩:=h.eld i' FI;refine⟨x,awL,?_⟩;rw[upd_ne D _ ag];exact⟨Gy,Ug⟩
 rotate_left 2
 .by_cases e:i'=i
  .subst e;exact⟨g',get_map_set_same _ _ _ avv,by rw[upd_same,upd_same];exact xU⟩
  .obtain⟨x,hx,hsx⟩:=h.wk i' FI La;refine⟨x,awM,?_⟩;rw[upd_ne D _ e,upd_ne ow _ e];refine hsx.rely (hWP _) hc h.gm.hB (λb hb=>(h.gm.own i hi b hb).1) (λb hb=>⟨λI9=>e (h.gm.dis i' i b La hi hb I9),(h.gm.own i' La b hb).2,?_,?_⟩) (λe'=>e (h.gm.ixd i' i FI MF La hi e'))
   .have:=(h.gm.own i' La b hb).1;have:=h.gm.hC;omega
   .have:=(h.gm.own i' La b hb).1;have:=h.gm.hW;omega
 .by_cases e:i'=i
  .subst e;rw[Deaf_own,h.deafW i' La,upd_same];exact alx
  .exact az0
 .by_cases e:i'=i
  .subst e;rw[upd_same]at uw;exact hrel uw
  .rw[upd_ne D _ e]at uw;exact azJ
theorem Cm.step0(hWP:∀idx v w w₁,Ro Wg C n B (λ_=>False) w w₁->WP idx v w->WP idx v w₁)(h:Cm P ty Wg C n B M WP j gs W t D ix ow l0 d0){a a':aG}{fn:aU}{pos:String}{es:aH}
  (hc:QN ty Wg C n l0 (λi=>¬M i) W W')
  (Em:∀op∈MemOp.ofEvents 0 fn pos es,Ok0 (H_ Wg) (Xg C j ix ow) (RdF Wg C B) j op) (uI:∀e∈es,Vp Wg W'.heap.size (MemAct.ofEvent e)) (hnr:∀e∈es,e.loc≠.mark (.release (stA Wg))) (ho:W'.output=W.output):
  Cm P ty Wg C n B M WP j ((gs.map (woken P a a' W')).setIfInBounds 0 a') W' (t++MemOp.ofEvents 0 fn pos es) D ix ow (l0++fresh W.heap.size W'.heap.size) (deafBehind d0 es):=by
 refine⟨kG,λi MF hi=>?_,λi hi=>?_,h.past.app (Ik (.inl rfl)),h.over.app (Ik (.inl rfl)),h.ct.app0 h.gm.apart Em,h.norel.app (norel_of hnr),avA,Un h.low hc.size (λop uT=>by obtain⟨e,he,rfl⟩:=Go.Conc.mem_ofEvents uT;exact uI e he),
  by rw[Deaf_own,h.deaf0],λi hi=>by rw[Deaf_other t ag _ g_of_ofEvents,h.deafW i hi],λi MF hi uw=>?_,hc.pay h.pay,h.gm.arx hc.size,ho.trans h.out,hc.os.trans h.os⟩
 .obtain⟨x,hx,hsx⟩:=h.wk i MF hi;refine⟨x,awM,hsx.rely (hWP _) hc h.gm.hB (λb hb=>(h.gm.DD b hb).1) (λb hb=>⟨h.gm.abJ i b hi hb,(h.gm.own i hi b hb).2,?_,?_⟩) (λhn=>hn (h.gm.ixM i MF hi))⟩
  .have:=(h.gm.own i hi b hb).1;have:=h.gm.hC;omega
  .have:=(h.gm.own i hi b hb).1;have:=h.gm.hW;omega
 .obtain⟨x,hx,Gy,Ug⟩:=h.eld i hi;exact⟨x,awL,Gy,Ug⟩
 .obtain⟨r,hr,hrs⟩:=h.rel i MF hi uw;exact⟨r,hr.appOther g_of_ofEvents ag,hrs⟩
theorem Cm.spawn(h:Cm P ty Wg C n B M WP j gs W t D ix ow l0 0){a' child:aG}{x y:MemOp}{m idx:Nat}{l l0':aA}(hx:x.g=0/\x.act=.go (j+1))(hy:y.g=j+1/\y.act=.start)
  (hl:∀b∈l,b∈l0) (hl0:∀b,b∈l0'↔b∈l0/\b∉l) (hid:∀i,sF.el<=i->i<j->ix i≠idx) (hM:M idx) (hc:Wk P ty Wg C n B WP idx m child (gw W l)):
  Cm P ty Wg C n B M WP (j+1) ((gs.setIfInBounds 0 a').push child) W (t++#[x,y]) (upd D j ⟨7,m+24,0⟩) (upd ix j idx) (upd ow j l) l0' 0:=by
 have gm':=h.gm.fork hl hl0 hid hM;have hm:∀op∈#[x,y],op=x\/op=y:=by intro op uT;simpa using uT
 have uw:∀op∈#[x,y],op.act≠.mark .disable/\op.act≠.mark .enable:=by
  intro op uT;rcases hm op uT with rfl|rfl
  .rw[hx.2];exact⟨ax,ax⟩
  .rw[hy.2];exact⟨ax,ax⟩
 have BD:CT (H_ Wg) (Xg C (j+1) (upd ix j idx) (upd ow j l)) (RdF Wg C B) t j:=by
  refine afs h.ct (λk l' _ kj ⟨k1,_,a,e,z⟩=>⟨k1,ag,a,e,?_⟩) (λk l' _ kj ⟨k1,_,a,e,z⟩=>.inl ⟨k1,kj,a,e,?_⟩)
  .rw[upd_ne ow _ ag,upd_ne ix _ ag];exact z
  .rw[upd_ne ow _ ag,upd_ne ix _ ag]at z;exact z
 have hel:=h.gm.hel;have hne:O7 #[x,y]:=λop uT=>(hm op uT).elim (λe=>.inl (by rw[e];exact hx.1)) (λe=>.inr (.inl (by rw[e,hy.1];omega)))
 refine⟨kG,λi MF hi=>?_,λi hi=>?_,h.past.app hne,h.over.app hne,BD.fork gm'.apart hx hy h.deaf0,h.norel.app λop uT=>?_,avA,Un h.low (az _) (λop uT=>?_),by rw[Deaf_still t 0 _ uw,h.deaf0],λi hi=>?_,λi MF hi hs=>?_,h.pay,gm',h.out,h.os⟩
 .rcases bJ i j with qK|Ws
  .obtain⟨g,hg,hsg⟩:=h.wk i MF qK;refine⟨g,?_,by rw[upd_ne D _ ag,upd_ne ix _ ag,upd_ne ow _ ag];exact hsg⟩;rw[av_ awk,<-mf,jZ ag];exact hg
  .obtain rfl:i=j:=ag;refine⟨child,?_,by rw[upd_same,upd_same,upd_same];exact .comp hc⟩;rw[show i+1=(gs.setIfInBounds 0 a').size by simp[h.size],Array.getElem?_push_size]
 .obtain⟨g,hg,Tf,Ue⟩:=h.eld i hi;refine⟨g,?_,by rw[upd_ne D _ ag];exact⟨Tf,Ue⟩⟩;rw[av_ awk,<-mf,jZ ag];exact hg
 .rcases hm op uT with rfl|rfl
  .rw[hx.2];simp
  .rw[hy.2];simp
 .rcases hm op uT with rfl|rfl
  .rw[hx.2];exact Ez rfl
  .rw[hy.2];exact Ez rfl
 .rw[Deaf_still t _ _ uw];rcases bJ i j with qK|Ws
  .rw[h.deafW i qK,upd_ne D _ ag]
  .obtain rfl:i=j:=ag;rw[upd_same];exact Deaf_absent λa op ha e=>by have:=h.ct.gs a op ha;omega
 .rcases bJ i j with qK|Ws
  .rw[upd_ne D _ ag]at hs;obtain⟨r,hr,hrs⟩:=h.rel i MF qK hs;refine⟨r,hr.appNot (λop uT=>?_),hrs⟩;rcases hm op uT with rfl|rfl
   .rw[hx.1];omega
   .rw[hy.1];omega
  .obtain rfl:i=j:=ag;rw[upd_same]at hs;simp at hs
end
end Go.Gh
namespace Go.Gh
open Go.Conc Go.ConcN
open Go.ConcR (KK WgAt stA smA rd wr mk Payload DC0 g_of_ofEvents Bk bk_of_mute ofEvent_loc_mark ofEvent_cell)
variable [Payload][rq][sF][yO]
omit [Payload][rq][sF][yO]in
theorem EU(a:Nat):fresh a a=[]:=by simp[fresh]
section
variable (P:aN)(ty:aF)(Wg C n B:Nat)(M:Nat->Prop)(WP:Nat->ai->ah->Prop)(K:aA->aG->ah->Prop)(N:Nat)
def Iv(μ:Nat×Nat)(m:Machine)(t:Trace):Prop:=
 ∃(gs:dE)(W:ah)(sl:Option (Nat×Nat))(j:Nat)(D:Nat->WD)(ix:Nat->Nat)(ow:Nat->aA)(tag:CTag)(r f0 d0:Nat)(a:aG)(st sm:Int)(l0 ids:aA),
  m=crowd gs W sl/\gs[0]?=some a/\MS P ty Wg C n B M WP K ids l0 tag r f0 d0 a W/\Cm P ty Wg C n B M WP j gs W t D ix ow l0 d0/\WgAt ty Wg W st sm/\ConcN.Mode j D tag st sm/\
  (tag=.ret->NP Wg j t)/\(∀i,sF.el<=i->i<j->ix i∈ids)/\(∀x∈ids,∃i,sF.el<=i/\i<j/\ix i=x)/\j+r=N/\μ=(phi N (Vc j D) tag+Ssum j D,f0+2*Fsum j D)
structure Qd:Prop where
 wp:∀idx v w w₁,Ro Wg C n B (λ_=>False) w w₁->WP idx v w->WP idx v w₁
 k:∀ids g w w₁,Ro Wg C n B (λi=>¬M i) w w₁->K ids g w->K ids g w₁
end
section
variable {P:aN}{ty:aF}{Wg C n B:Nat}{M:Nat->Prop}{WP:Nat->ai->ah->Prop}{K:aA->aG->ah->Prop}{N:Nat}
 {gs:dE} {W W':ah} {sl:Option (Nat×Nat)} {j:Nat} {D:Nat->WD} {ix:Nat->Nat} {ow:Nat->aA} {tag:CTag} {r f0 d0:Nat} {a:aG} {t:Trace} {st sm:Int} {l0 ids:aA}
theorem Qe(hb:Qd Wg C n B M WP K)(ha:gs[0]?=some a)(Rx:MS P ty Wg C n B M WP K ids l0 tag r f0 d0 a W)(sU:Cm P ty Wg C n B M WP j gs W t D ix ow l0 d0)
  (KQ:∀i,sF.el<=i->i<j->ix i∈ids) (Ho:∀x∈ids,∃i,sF.el<=i/\i<j/\ix i=x) (hN:j+r=N)
  {i:Nat} (MF:sF.el<=i) (hi:i<j) {g g':aG} {es:aH} {s' m' dd':Nat} {st' sm':Int} (hg:gs[i+1]?=some g) (hgo:stepG P false g W=.go g' W' es)
  (hc:QN ty Wg C n (ow i) (· =ix i) W W') (xU:WS P ty Wg C n B WP (ix i) (ow i++fresh W.heap.size W'.heap.size) s' m' dd' g' W')
  (Em:∀op∈MemOp.ofEvents (i+1) g.frame.fn g.frame.place es,OkW (H_ Wg) (Xg C j ix (upd ow i (ow i++fresh W.heap.size W'.heap.size))) (RdF Wg C B) (i+1) op) (uI:∀e∈es,Vp Wg W'.heap.size (MemAct.ofEvent e))
  (hnr:∀e∈es,e.loc≠.mark (.release (stA Wg))) (alx:deafBehind (D i).deaf es=dd')
  (hrel:s'<=6->∃r,RelBy (stA Wg) (t++MemOp.ofEvents (i+1) g.frame.fn g.frame.place es) (i+1) r/\sF.ts<=r) (xg:WgAt ty Wg W' st' sm')
  (ry:∀tag',(tag'=tag\/(tag=.blk/\tag'=.w3))->(mayWake P g=true->g'.status=.running->tag'≠.blk)->ConcN.Mode j (upd D i ⟨s',m',dd'⟩) tag' st' sm')
  (En:tag=.ret->NP Wg j (t++MemOp.ofEvents (i+1) g.frame.fn g.frame.place es))
  (qK:(s'<(D i).stage/\cnt ⟨s',m',dd'⟩<=cnt (D i))\/(s'=(D i).stage/\m'+1<=(D i).fuel)):
  ∃m₁ ops μ',runT P (crowd gs W sl) (i+1)=(.next m₁,ops)/\Lt2 μ' (phi N (Vc j D) tag+Ssum j D,f0+2*Fsum j D)/\Iv P ty Wg C n B M WP K N μ' m₁ (t++ops):=by
 have atl:=Rx.rely hb.k hc sU.gm.hB (λb hb=>(sU.gm.own i hi b hb).1) (λb xB=>⟨λhbi=>sU.gm.abJ i b hi hbi xB,(sU.gm.DD b xB).2,by have:=(sU.gm.DD b xB).1;have:=sU.gm.hC;omega,by have:=(sU.gm.DD b xB).1;have:=sU.gm.hW;omega⟩) (λx hx=>by subst hx;exact sU.gm.ixM i MF hi);obtain⟨tag',f',JO,hf',aeT,hwk⟩:=atl.wokenBy g g';have sW:=runT_crowd_go (P:=P) (sl:=sl) (i:=i+1) hg (by simpa using hgo);have e1:=sumTo_upd D (⟨s',m',dd'⟩:WD) cnt hi;have e2:=sumTo_upd D (⟨s',m',dd'⟩:WD) WD.stage hi;have e3:=sumTo_upd D (⟨s',m',dd'⟩:WD) WD.fuel hi
 refine⟨_,_,(phi N (Vc j (upd D i ⟨s',m',dd'⟩)) tag'+Ssum j (upd D i ⟨s',m',dd'⟩),f'+2*Fsum j (upd D i ⟨s',m',dd'⟩)),sW,?_,
  _,W',sl,j,upd D i ⟨s',m',dd'⟩,ix,_,tag',r,f',d0,woken P g g' W' a,st',sm',l0,ids,rfl,axF,JO,sU.stepW hb.wp MF hi hc xU Em uI hnr alx hrel (abL hgo),xg,ry tag' aeT hwk,?_,KQ,Ho,hN,rfl⟩
 .rw[phi_retag N _ aeT];simp only[Vc,Ssum,Fsum]at*;rcases qK with⟨h1,h2⟩|⟨h1,h2⟩
  .refine Prod.Lex.left _ _ ?_;have:=phi_mono N (v':=sumTo j λa=>cnt (upd D i ⟨s',m',dd'⟩ a)) (v:=sumTo j λa=>cnt (D a)) ag tag;omega
  .have ec:cnt (⟨s',m',dd'⟩:WD)=cnt (D i):=by simp only[cnt,h1]
   have ev:(sumTo j λa=>cnt (upd D i ⟨s',m',dd'⟩ a))=sumTo j λa=>cnt (D a):=ag
   have rZ:(sumTo j λa=>(upd D i ⟨s',m',dd'⟩ a).stage)=sumTo j λa=>(D a).stage:=ag
   rw[ev,rZ];refine Prod.Lex.right _ ?_;omega
 .intro e;rcases aeT with rfl|⟨_,rfl⟩
  .exact En e
  .cases e
omit [Payload][rq][sF][yO]in
theorem ajP{es:aH}(h:∀e∈es,Bk Wg e){sz:Nat}(hW:Wg<sz):∀e∈es,Vp Wg sz (MemAct.ofEvent e):=by
 intro e he;rcases h e he with h1|h1|⟨a,wr,rfl,ha⟩
 .exact Ez axx
 .exact Ez axx
 .exact amP _ _ _ ha hW
theorem afv(hb:Qd Wg C n B M WP K)(Ui:N<2147483648)(ha:gs[0]?=some a)(Rx:MS P ty Wg C n B M WP K ids l0 tag r f0 d0 a W)(sU:Cm P ty Wg C n B M WP j gs W t D ix ow l0 d0)
  (xg:WgAt ty Wg W st sm) (ry:ConcN.Mode j D tag st sm) (En:tag=.ret->NP Wg j t) (KQ:∀i,sF.el<=i->i<j->ix i∈ids) (Ho:∀x∈ids,∃i,sF.el<=i/\i<j/\ix i=x) (hN:j+r=N) (ajQ:j+pend tag<=N)
  {i:Nat} (MF:sF.el<=i) (hi:i<j) {g:aG} (hg:gs[i+1]?=some g) (sW:g.status=.running)
  {v:ai} {s m dd:Nat} (hs:WSit P ty Wg C n NoF NoF 0 (ix i+1) v s m dd g W) (h23:s=7->m<=23) (hwp:WP (ix i) v (gw W (ow i))) (aqw:s<=6->Has C (ix i) v W) (uw:(D i).stage=s) (hfu:m<=(D i).fuel) (hde:(D i).deaf=dd):
  ∃m₁ ops μ',runT P (crowd gs W sl) (i+1)=(.next m₁,ops)/\Lt2 μ' (phi N (Vc j D) tag+Ssum j D,f0+2*Fsum j D)/\Iv P ty Wg C n B M WP K N μ' m₁ (t++ops):=by
 have hVj:=Vc_le j D;have hdk:Deaf t (i+1)=dd:=by rw[sU.deafW i hi,hde]
 have hWs:Wg<W.heap.size:=bG sU.gm.hW sU.gm.hB
 have lib:∀{W':ah}{s' m' dd':Nat}{g':aG},Aside Wg W W'->WgLive ty Wg W'->WSit P ty Wg C n NoF NoF 0 (ix i+1) v s' m' dd' g' W'->(s'=7->m'<=23)->(s'<=6->Has C (ix i) v W)->WS P ty Wg C n B WP (ix i) (ow i++fresh W.heap.size W'.heap.size) s' m' dd' g' W':=by intro W' s' m' dd' g' hA hl xU ajR hh;have hc:QN ty Wg C n [] (λ_=>False) W W':=QN.of_wg hA hl sU.gm.hCW;have K_:=hc.ro (B:=B) (l:=ow i) (Cl:=λ_=>False) sU.gm.hB ax (λb I9=>⟨ax,(sU.gm.own i hi b I9).2,ayd,ayc⟩) (λ_=>False.elim);rw[hA.size,EU,d_];exact .lib xU ajR (hb.wp _ _ _ _ K_ hwp) (λh=>(hc.cells _ id).trans (hh h))
 have bookG:∀{g':aG}{W':ah}{es:aH}{s' m' dd':Nat}{st' sm':Int},stepG P false g W=.go g' W' es->Aside Wg W W'->WgAt ty Wg W' st' sm'->(∀e∈es,Bk Wg e)->
   (∀jx e,es[jx]?=some e->(MemAct.ofEvent e).touch?=none\/0<deafBehind dd (es.extract 0 jx))->WSit P ty Wg C n NoF NoF 0 (ix i+1) v s' m' dd' g' W'->(s'=7->m'<=23)->deafBehind dd es=dd'->s<=6->
   (∀tag',(tag'=tag\/(tag=.blk/\tag'=.w3))->(mayWake P g=true->g'.status=.running->tag'≠.blk)->ConcN.Mode j (upd D i ⟨s',m',dd'⟩) tag' st' sm')->(tag=.ret->NP Wg j (t++MemOp.ofEvents (i+1) g.frame.fn g.frame.place es))->((s'<s/\cnt ⟨s',m',dd'⟩<=cnt (D i))\/(s'=s/\m'+1<=(D i).fuel))->
   ∃m₁ ops μ',runT P (crowd gs W sl) (i+1)=(.next m₁,ops)/\Lt2 μ' (phi N (Vc j D) tag+Ssum j D,f0+2*Fsum j D)/\Iv P ty Wg C n B M WP K N μ' m₁ (t++ops):=by
  intro g' W' es s' m' dd' st' sm' hgo hAs MG Jk hd xU ajR hdd h6 IQ aly qK
  exact Qe hb ha Rx sU KQ Ho hN MF hi hg hgo (QN.of_wg hAs ⟨_,_,MG⟩ sU.gm.hCW) (lib hAs ⟨_,_,MG⟩ xU ajR (λ_=>aqw ag)) (ajO Jk) (ajP Jk (by rw[hAs.size];exact hWs)) (norel_of_Bk Jk) (by rw[hde];exact hdd)
   (λ_=>let⟨r,hr,hrs⟩:=sU.rel i MF hi ag;⟨r,hr.book hdk _ _ Jk hd,hrs⟩) MG IQ aly (by rw[uw];exact qK)
 have book:∀{g':aG}{W':ah}{es:aH}{s' m' dd':Nat}{st' sm':Int},stepG P false g W=.go g' W' es->Aside Wg W W'->WgAt ty Wg W' st' sm'->(∀e∈es,Bk Wg e)->
   (∀jx e,es[jx]?=some e->(MemAct.ofEvent e).touch?=none\/0<deafBehind dd (es.extract 0 jx))->WSit P ty Wg C n NoF NoF 0 (ix i+1) v s' m' dd' g' W'->(s'=7->m'<=23)->deafBehind dd es=dd'->s<=6->
   ConcN.Mode j (upd D i ⟨s',m',dd'⟩) tag st' sm'->(tag=.ret->NP Wg j (t++MemOp.ofEvents (i+1) g.frame.fn g.frame.place es))->((s'<s/\cnt ⟨s',m',dd'⟩<=cnt (D i))\/(s'=s/\m'+1<=(D i).fuel))->
   ∃m₁ ops μ',runT P (crowd gs W sl) (i+1)=(.next m₁,ops)/\Lt2 μ' (phi N (Vc j D) tag+Ssum j D,f0+2*Fsum j D)/\Iv P ty Wg C n B M WP K N μ' m₁ (t++ops):=
  λhgo hAs MG Jk hd xU ajR hdd h6 IQ aly qK=>bookG hgo hAs MG Jk hd xU ajR hdd h6 (λ_ ht _=>IQ.retag ht) aly qK
 have idle:∀{g':aG}{m':Nat},stepG P false g W=.go g' W #[]->WSit P ty Wg C n NoF NoF 0 (ix i+1) v s m' dd g' W->m'+1=m->s<=6->s≠1->
   ∃m₁ ops μ',runT P (crowd gs W sl) (i+1)=(.next m₁,ops)/\Lt2 μ' (phi N (Vc j D) tag+Ssum j D,f0+2*Fsum j D)/\Iv P ty Wg C n B M WP K N μ' m₁ (t++ops):=by
  intro g' m' hgo xU hm h6 h1;exact book hgo (.refl Wg W) xg ax ax xU ag rfl h6 (by have:=ry.same (i:=i) m' dd;rwa[uw]at this) (λe=>absurd e (ry.not_ret hi ag)) (.inr ⟨rfl,ag⟩)
 have nr:s≠1->tag≠.ret:=λh=>ry.not_ret hi ag
 cases hs with
 |r0 h=>
  rcases Goes.cases h with tK|⟨m',rfl,rY⟩
  .obtain⟨_,hh,g',hgo,m₂,hk⟩:=tK W (RW.refl W)
   exact Qe hb ha Rx sU KQ Ho hN MF hi hg hgo (.refl W) (lib (.refl Wg W) ⟨_,_,xg⟩ (.k1 hk) ag (λ_=>by simpa using hh)) (amQ (by intro e he;simp at he;subst he;rfl)) (by intro e he;simp at he;subst he;exact Ez rfl) (by intro e he;simp at he;subst he;simp[mk]) (by rw[hde];rfl)
    (λ_=>⟨t.size,RelBy.new hdk _ _,sU.hts⟩) xg (λ_ ht _=>(ry.counted hi ag (.inl rfl) _ _).retag ht) (λe=>absurd e (nr ag)) (.inl ⟨ag,by simp[cnt,uw]⟩)
  .obtain⟨g',W',es,hgo,⟨hac,hev⟩,uO⟩:=rY W (RW.refl W);simp only[iF]at hac;have KZ:fresh W.heap.size W'.heap.size=[]:=by rw[hac.size,EU]
   have hc:QN ty Wg C n (ow i) (· =ix i) W W':=⟨fQ hac.size.symm,hac.tape,hac.os,λb _ _ hbC _=>hac.block b hbC,λx hx=>hac.cells x hx,hac.pay,λ⟨a,b,x⟩=>⟨a,b,x.of_block (hac.block Wg (dU sU.gm.hCW))⟩⟩;have hc0:QN ty Wg C n [] (· =ix i) W W':=⟨fQ hac.size.symm,hac.tape,hac.os,λb _ _ hbC _=>hac.block b hbC,λx hx=>hac.cells x hx,hac.pay,λ⟨a,b,x⟩=>⟨a,b,x.of_block (hac.block Wg (dU sU.gm.hCW))⟩⟩;have K_:=hc0.ro (B:=B) (l:=ow i) (Cl:=λ_=>False) sU.gm.hB ax (λb I9=>⟨ax,(sU.gm.own i hi b I9).2,ayd,ayc⟩) (λ_=>False.elim)
   have ac1:∀e∈es,∀x,(MemAct.ofEvent e).touch?=some x->ShN Wg x.loc/\x.kind≠.plain/\x.kind≠.said:=by
    intro e he x hx;rcases((hev e he).1 0 "").2 x hx with h1|h1|h1
    .exact h1
    .exact h1.elim
    .exact h1.1.elim
   refine Qe hb ha Rx sU KQ Ho hN MF hi hg hgo hc (by rw[KZ,d_];exact .lib (.r0 uO) (λ_=>by have:=h23 rfl;omega) (hb.wp _ _ _ _ K_ hwp) (λh=>ag)) (λop uT=>?_) (λe he x hx=>⟨λad ead=>?_,λ_=>(ac1 e he x hx).1,by obtain⟨⟨a',e',_⟩,_⟩:=ac1 e he x hx;rw[e'];rfl⟩) (λe he=>(hev e he).2.2.2)
    (by rw[hde];exact deafBehind_idle (λe he=>⟨(hev e he).2.1,(hev e he).2.2.1⟩) 0) (λh=>ag) (xg.of_block (hac.block Wg (dU sU.gm.hCW)))
    (λ_ ht _=>ConcN.Mode.retag (by have:=ry.same (i:=i) m' 0;rwa[uw]at this) ht) (λe=>absurd e (nr ag)) (.inr ⟨uw.symm,ag⟩)
   .obtain⟨e,he,rfl⟩:=Go.Conc.mem_ofEvents uT;exact⟨rfl,λx hx=>.inl ⟨.inl (ac1 e he x hx).1,(ac1 e he x hx).2⟩⟩
   .obtain⟨⟨a',e',hbW⟩,_⟩:=ac1 e he x hx;rw[ead]at e';obtain rfl:=fF e';rw[hac.size,hbW];exact hWs
 |k1 h=>
  rcases Goes.cases h with tK|⟨m',rfl,rY⟩
  .obtain⟨_,g',hgo,m₂,hk⟩:=tK W (RW.refl W)
   exact book hgo (.refl Wg W) xg (by intro e he;simp at he;subst he;exact .inl rfl) (by intro jx e he;exact .inl (by have:=fZ he;simp at this;subst this;rfl)) (.d1 hk) ag rfl ag
    (ry.counted hi ag (.inr rfl) _ _) (λe=>absurd e (nr ag)) (.inl ⟨ag,by simp[cnt,uw]⟩)
  .obtain⟨g',W',es,hgo,⟨rfl,rfl⟩,uO⟩:=rY W (RW.refl W);exact idle hgo (.k1 uO) rfl ag ag
 |d1 h=>
  rcases Goes.cases h with tK|⟨m',rfl,rY⟩
  .obtain⟨_,w_⟩:=tK W (RW.refl W);have hc1:cnt (D i)=1:=by simp[cnt,uw]
   have hV1:1<=Vc j D:=by have:=le_sumTo (f:=λx=>cnt (D x)) hi;simp only[Vc];omega
   have df2:∀jx e,(#[rd (stA Wg),wr (stA Wg)]:aH)[jx]?=some e->(MemAct.ofEvent e).touch?=none\/0<deafBehind 1 ((#[rd (stA Wg),wr (stA Wg)]:aH).extract 0 jx):=by
    intro jx e he
    match jx,he with
    |0,_=>exact .inr awm
    |1,_=>exact .inr (by simp[deafBehind,rd])
    |jx+2,he=>simp at he
   have hq0:∀q,cnt (⟨1,q,1⟩:WD)=0:=λ_=>rfl
   have opq:∀q,OpenSt j D->OpenSt j (upd D i ⟨1,q,1⟩):=λq h a ha=>by
    by_cases e:a=i
    .subst e;rw[upd_same];simp
    .rw[upd_ne D _ e];exact h a ha
   cases ry with
   |opn h1 h2 h3=>
    obtain⟨u,hu⟩:∃u,Vc j D+pend tag=u+1:=⟨Vc j D+pend tag-1,ag⟩;rw[hu]at xg;have BB:WgAt ty Wg W (((u:Nat)+1)*KK+((0:Nat):Int)) 0:=nX;obtain⟨g',hgo,_,hq⟩:=w_ u 0 ag ag BB;obtain⟨q,hq⟩:=hq ag;have hv':Vc j (upd D i ⟨1,q,1⟩)+pend tag=u:=ax7;refine book hgo (aside_setCell W (stA Wg) _) (xg.setSt _) bk_rw df2 (.quit hq) ag rfl ag ?_ (λe=>absurd e (nr ag)) (.inl ⟨ag,mO⟩);have e:((u:Nat):Int)*KK+((0:Nat):Int)=((Vc j (upd D i ⟨1,q,1⟩)+pend tag:Nat):Int)*KK:=by rw[hv'];simp
    rw[e];exact .opn h1 (opq q h2) (λvs ev=>by have:=h3 vs ev;omega)
   |reg h1 h2 h3=>
    obtain⟨u,hu⟩:∃u,Vc j D=u+1:=⟨Vc j D-1,ag⟩;rw[hu]at xg;have BB:WgAt ty Wg W (((u:Nat)+1)*KK+((1:Nat):Int)) 0:=nX;obtain⟨g',hgo,hl,hq⟩:=w_ u 1 ag ag BB;by_cases hv0:u=0
    .subst hv0;obtain⟨m₂,hk⟩:=hl ⟨rfl,rfl⟩;refine book hgo (aside_setCell W (stA Wg) _) (xg.setSt _) bk_rw df2 (.d2 hk) ag rfl ag ?_ (λe=>absurd e (nr ag)) (.inl ⟨ag,mO⟩)
     have aeU:∀a,a<j->a≠i->(D a).stage=1:=λa ha e=>by have c0:=others_uncounted hi hu hc1 a ha e;have:=h2 a ha;simp only[cnt]at c0;split at c0<;>omega
     have:=ConcN.Mode.last (j:=j) (D:=upd D i ⟨4,m₂,1⟩) (tag:=tag) i h1 hi awu (λa ha e=>awv);exact ayZ
    .obtain⟨q,hq⟩:=hq ag;have hv':Vc j (upd D i ⟨1,q,1⟩)=u:=ax7;refine book hgo (aside_setCell W (stA Wg) _) (xg.setSt _) bk_rw df2 (.quit hq) ag rfl ag ?_ (λe=>absurd e (nr ag)) (.inl ⟨ag,mO⟩);have e:((u:Nat):Int)*KK+((1:Nat):Int)=((Vc j (upd D i ⟨1,q,1⟩):Nat):Int)*KK+1:=by rw[hv'];simp
     rw[e];exact .reg h1 (opq q h2) ag
   |last L _ h2 h3 h4=>
    by_cases e:i=L
    .subst e;omega
    .have:=h4 i hi e;omega
   |sema h2=>have:=h2 i hi;omega
   |fin _ h2=>have:=h2 i hi;omega
  .obtain⟨g',W',es,hgo,⟨rfl,rfl⟩,uO⟩:=rY W (RW.refl W);exact idle hgo (.d1 uO) rfl ag ag
 |d2 h=>
  rcases Goes.cases h with tK|⟨m',rfl,rY⟩
  .obtain⟨_,hx⟩:=tK W (RW.refl W);obtain⟨hW3,aeU,rfl,rfl⟩:=ry.isLast hi ag;simp only[uw]at xg;obtain⟨g',hgo,m₂,hk⟩:=hx nX;refine book hgo (.refl Wg W) xg bk_rd (by intro jx e he;match jx,he with|0,_=>exact .inr awm|jx+1,he=>simp at he) (.d3 hk) ag rfl ag ?_ (λe=>absurd e (nr ag)) (.inl ⟨ag,mO⟩);have:=ConcN.Mode.last (j:=j) (D:=upd D i ⟨3,m₂,1⟩) (tag:=tag) i hW3 hi awu (λa ha e=>awv);exact ayZ
  .obtain⟨g',W',es,hgo,⟨rfl,rfl⟩,uO⟩:=rY W (RW.refl W);exact idle hgo (.d2 uO) rfl ag ag
 |d3 h=>
  rcases Goes.cases h with tK|⟨m',rfl,rY⟩
  .obtain⟨_,hx⟩:=tK W (RW.refl W);obtain⟨hW3,aeU,rfl,rfl⟩:=ry.isLast hi ag;simp only[uw]at xg;obtain⟨g',hgo,m₂,hk⟩:=hx nX;refine book hgo (aside_setCell W (stA Wg) _) (xg.setSt 0) (by intro e he;simp at he;subst he;exact bk_cell _ _ rfl) (by intro jx e he;match jx,he with|0,_=>exact .inr awm|jx+1,he=>simp at he) (.d4 hk) ag rfl ag ?_ (λe=>absurd e (nr ag)) (.inl ⟨ag,mO⟩);have:=ConcN.Mode.last (j:=j) (D:=upd D i ⟨2,m₂,1⟩) (tag:=tag) i hW3 hi awu (λa ha e=>awv);exact ayZ
  .obtain⟨g',W',es,hgo,⟨rfl,rfl⟩,uO⟩:=rY W (RW.refl W);exact idle hgo (.d3 uO) rfl ag ag
 |d4 h=>
  rcases Goes.cases h with tK|⟨m',rfl,rY⟩
  .obtain⟨_,hmw,hx⟩:=tK W (RW.refl W);obtain⟨hW3,aeU,rfl,rfl⟩:=ry.isLast hi ag;simp only[uw]at xg;obtain⟨g',hgo,q,hq⟩:=hx nX
   have Fp:g'.status=.running:=by
    cases q with
    |zero=>exact absurd hq.2 aC
    |succ q=>exact hq.elim (λx=>absurd x.2 aC) (λx=>x.1)
   refine bookG hgo (aside_setCell W (smA Wg) _) (xg.setSm 1) (es:=semEvents (smA Wg)) bk_sem ?_ (.quit hq) ag avl ag ?_ (λe=>absurd e (nr ag)) (.inl ⟨ag,mO⟩)
   .intro jx e he
    match jx,he with
    |0,he=>simp[semEvents]at he;subst he;exact .inl rfl
    |1,_=>exact .inr avl
    |2,_=>exact .inr avl
    |3,he=>simp[semEvents]at he;subst he;exact .inl rfl
    |jx+4,he=>simp[semEvents]at he
   .intro tag' ht hw;have hnb:=hw hmw Fp
    have e3:tag'=.w3:=by
     rcases ht with rfl|⟨_,rfl⟩
     .cases tag'<;>first|rfl|exact hW3.elim|exact absurd rfl hnb
     .rfl
    subst e3;simp only[aX]
    exact .sema λa ha=>by
     by_cases e:a=i
     .subst e;rw[upd_same]
     .rw[upd_ne D _ e];exact aeU a ha e
  .obtain⟨g',W',es,hgo,⟨rfl,rfl⟩,uO⟩:=rY W (RW.refl W);exact idle hgo (.d4 uO) rfl ag ag
 |quit h=>
  cases m with
  |zero=>rw[h.1]at sW;cases sW
  |succ q=>
   rcases h with⟨hf,_⟩|⟨_,g',es,aoj,rY,hq⟩
   .rw[hf]at sW;cases sW
   .have Jk:∀e∈es,Bk Wg e:=λe he=>bk_of_mute (aoj e he)
    have Rt:∀jx e,es[jx]?=some e->(MemAct.ofEvent e).touch?=none\/0<deafBehind dd (es.extract 0 jx):=λjx e he=>.inl (touch_mute (aoj e (fZ he)))
    refine book (rY W) (.refl Wg W) xg Jk Rt (.quit hq) ag rfl ag (by have:=ry.same (i:=i) q (deafBehind dd es);rwa[uw]at this) (λe=>(En e).app λi' r _ La hr=>?_) (.inr ⟨rfl,ag⟩);by_cases e':i'=i
    .subst e';exact hr.book hdk _ _ Jk Rt
    .exact hr.appOther g_of_ofEvents ag
end
end Go.Gh
namespace Go.Gh
open Go.Conc Go.ConcN
open Go.ConcR (KK WgAt stA smA rd wr mk Payload DC0 g_of_ofEvents Bk ofEvent_loc_mark ofEvent_cell ofEvent_mk)
variable [Payload][rq][sF][yO]
section
variable {P:aN}{ty:aF}{Wg C n B:Nat}{M:Nat->Prop}{WP:Nat->ai->ah->Prop}{K:aA->aG->ah->Prop}{N:Nat}
 {gs:dE} {W W':ah} {sl:Option (Nat×Nat)} {j:Nat} {D:Nat->WD} {ix:Nat->Nat} {ow:Nat->aA} {tag:CTag} {r f0 d0:Nat} {a:aG} {t:Trace} {st sm:Int} {l0 ids:aA}
omit [Payload][rq][sF][yO]in
theorem Sm{b:Addr}{wr:Bool}{x:Touch}(hx:(MemAct.ofEvent ⟨.cell b,wr,false⟩).touch?=some x):x.loc=.cell b/\x.write=wr:=by rw[ofEvent_cell]at hx;simp only[MemAct.touch?,iE]at hx;subst hx;exact⟨rfl,rfl⟩
theorem stepW(hb:Qd Wg C n B M WP K)(Ui:N<2147483648)(ha:gs[0]?=some a)(Rx:MS P ty Wg C n B M WP K ids l0 tag r f0 d0 a W)(sU:Cm P ty Wg C n B M WP j gs W t D ix ow l0 d0)
  (xg:WgAt ty Wg W st sm) (ry:ConcN.Mode j D tag st sm) (En:tag=.ret->NP Wg j t) (KQ:∀i,sF.el<=i->i<j->ix i∈ids) (Ho:∀x∈ids,∃i,sF.el<=i/\i<j/\ix i=x) (hN:j+r=N) (ajQ:j+pend tag<=N)
  {i:Nat} (MF:sF.el<=i) (hi:i<j) {g:aG} (hg:gs[i+1]?=some g) (sW:g.status=.running):
  ∃m₁ ops μ',runT P (crowd gs W sl) (i+1)=(.next m₁,ops)/\Lt2 μ' (phi N (Vc j D) tag+Ssum j D,f0+2*Fsum j D)/\Iv P ty Wg C n B M WP K N μ' m₁ (t++ops):=by
 obtain⟨g₁,hg₁,hs⟩:=sU.wk i MF hi;obtain rfl:g=g₁:=by rw[hg]at hg₁;exact gp hg₁
 generalize uw:(D i).stage=s at hs;generalize hfu:(D i).fuel=m at hs;generalize hde:(D i).deaf=dd at hs;cases hs with
 |lib h1 h2 h3 h4=>exact afv hb Ui ha Rx sU xg ry En KQ Ho hN ajQ MF hi hg sW h1 h2 h3 h4 uw ag hde
 |comp h=>
  rename_i m;have K_:=Ij (Wg:=Wg) (C:=C) (n:=n) (B:=B) W (ow i) (· =ix i);rcases Goes.cases h with tK|⟨m',rfl,rY⟩
  .obtain⟨_,v,hwp,aqw,hG⟩:=tK _ K_;exact afv hb Ui ha Rx sU xg ry En KQ Ho hN ajQ MF hi hg sW (.r0 (hG W ⟨_,_,xg⟩ aqw)) (λ_=>az _) hwp (λh=>ag) uw ag hde
  .obtain⟨g',w',es,hgo,hD,uO⟩:=rY _ K_;obtain⟨aqx,aqy⟩:=Ii P (book W.heap.size (ow i)) (w:=W) hgo;have hWs:Wg<W.heap.size:=bG sU.gm.hW sU.gm.hB;have ajS:Wg∉ow i:=λhx=>by have:=(sU.gm.own i hi _ hx).1;have:=sU.gm.hW;omega
   have hc:QN ty Wg C n (ow i) (· =ix i) W (w'.out W.output):=hD.chg rfl ajS hWs sU.gm.hCW;have apD:Ro Wg C n B (· =ix i) w' (gw (w'.out W.output) (ow i++fresh W.heap.size (w'.out W.output).heap.size)):=ajK rfl aqy;have tr:∀a b c,Ro Wg C n B (· =ix i) a b->Ro Wg C n B (· =ix i) b c->Ro Wg C n B (· =ix i) a c:=λ_ _ _ a b=>Ro.trans a b
   have MG:WgAt ty Wg (w'.out W.output) st sm:=by exact ay2
   have hdf:deafBehind (D i).deaf es=0:=by rw[hde];exact deafBehind_idle (λe he=>by obtain⟨b,wr,rfl,_,_⟩:=hD.evs e he;exact⟨ax,ax⟩) 0
   refine Qe hb ha Rx sU KQ Ho hN MF hi hg aqx hc (.comp (m:=m') (dH tr uO apD)) (λop uT=>?_) (λe he=>?_) (λe he=>?_) hdf (λh=>ag) MG
    (λ_ ht _=>ConcN.Mode.retag (by have:=ry.same (i:=i) (m'+24) 0;rwa[uw]at this) ht) (λe=>absurd e (ry.not_ret hi ag)) (.inr ⟨uw.symm,ag⟩)
   .obtain⟨e,he,rfl⟩:=Go.Conc.mem_ofEvents uT;obtain⟨b,wr,rfl,qK,alz⟩:=hD.evs e he;refine⟨rfl,λx hx=>?_⟩;obtain⟨hl,hw⟩:=Sm hx;rw[hl,hw];rcases alz with h1|h1|⟨i',rfl,h1⟩|⟨h1,h2,h3,h4,h5⟩
    .rw[yZ]at h1;exact .inr (.inl ⟨ag,ag,b,rfl,.inl (by rw[iF,upd_same];exact avV _ h1)⟩)
    .exact .inr (.inl ⟨ag,ag,b,rfl,.inl (by rw[iF,upd_same];exact List.mem_append_right _ (Ey.2 ⟨h1,qK⟩))⟩)
    .exact .inr (.inl ⟨ag,ag,_,rfl,.inr (by rw[iF,h1])⟩)
    .exact .inr (.inr ⟨⟨ag,b,rfl,h1,h2,h3,h5⟩,h4⟩)
   .exact azh
   .obtain⟨b,wr,rfl,_,_⟩:=hD.evs e he;simp
theorem ZZ(hb:Qd Wg C n B M WP K)(ha:gs[0]?=some a)(sU:Cm P ty Wg C n B M WP j gs W t D ix ow l0 d0)(KQ:∀i,sF.el<=i->i<j->ix i∈ids)(Ho:∀x∈ids,∃i,sF.el<=i/\i<j/\ix i=x)(hN:j+r=N)
  {a':aG} {es:aH} {tag':CTag} {f' dd:Nat} {st' sm':Int} (hgo:stepG P true a W=.go a' W' es) (hc:QN ty Wg C n l0 (λi=>¬M i) W W')
  (Em:∀op∈MemOp.ofEvents 0 a.frame.fn a.frame.place es,Ok0 (H_ Wg) (Xg C j ix ow) (RdF Wg C B) j op) (uI:∀e∈es,Vp Wg W'.heap.size (MemAct.ofEvent e)) (hnr:∀e∈es,e.loc≠.mark (.release (stA Wg)))
  (hdd:deafBehind d0 es=dd) (JO:MS P ty Wg C n B M WP K ids (l0++fresh W.heap.size W'.heap.size) tag' r f' dd a' W') (xg:WgAt ty Wg W' st' sm') (ry:ConcN.Mode j D tag' st' sm')
  (En:tag'=.ret->NP Wg j (t++MemOp.ofEvents 0 a.frame.fn a.frame.place es))
  (qK:phi N (Vc j D) tag'<phi N (Vc j D) tag\/(phi N (Vc j D) tag'=phi N (Vc j D) tag/\f'<f0)):
  ∃m₁ ops μ',runT P (crowd gs W sl) 0=(.next m₁,ops)/\Lt2 μ' (phi N (Vc j D) tag+Ssum j D,f0+2*Fsum j D)/\Iv P ty Wg C n B M WP K N μ' m₁ (t++ops):=by
 subst hdd;have sW:=runT_crowd_go (P:=P) (sl:=sl) (i:=0) ha (by simpa using hgo);refine⟨_,_,(phi N (Vc j D) tag'+Ssum j D,f'+2*Fsum j D),sW,?_,_,W',sl,j,D,ix,ow,tag',r,f',_,a',st',sm',_,ids,rfl,get_map_set_same _ _ _ (by rw[sU.size];omega),JO,sU.step0 hb.wp hc Em uI hnr (abL hgo),xg,ry,En,KQ,Ho,hN,rfl⟩;rcases qK with h|⟨h1,h2⟩
 .exact Prod.Lex.left _ _ ag
 .rw[h1];exact Prod.Lex.right _ ag
theorem Vq(hb:Qd Wg C n B M WP K)(ha:gs[0]?=some a)(sU:Cm P ty Wg C n B M WP j gs W t D ix ow l0 0)(xg:WgAt ty Wg W st sm)(ry:ConcN.Mode j D tag st sm)(KQ:∀i,sF.el<=i->i<j->ix i∈ids)(Ho:∀x∈ids,∃i,sF.el<=i/\i<j/\ix i=x)(hN:j+r=N)(hne:tag≠.ret)
  {Stop:aG->ah->Prop} {m':Nat} (rY:∀w₁,Ro Wg C n B (λi=>¬M i) (gw W l0) w₁->∃g' w' es,stepG P true a w₁=.go g' w' es/\Dg Wg C n B (λi=>¬M i) w₁ w' es/\Goes P true (Ro Wg C n B (λi=>¬M i)) (Dg Wg C n B (λi=>¬M i)) Stop m' g' w')
  (JO:∀{g':aG}{W':ah}{l:aA},Goes P true (Ro Wg C n B (λi=>¬M i)) (Dg Wg C n B (λi=>¬M i)) Stop m' g' (gw W' l)->MS P ty Wg C n B M WP K ids l tag r m' 0 g' W') (hf:m'<f0):
  ∃m₁ ops μ',runT P (crowd gs W sl) 0=(.next m₁,ops)/\Lt2 μ' (phi N (Vc j D) tag+Ssum j D,f0+2*Fsum j D)/\Iv P ty Wg C n B M WP K N μ' m₁ (t++ops):=by
 obtain⟨g',w',es,hgo,hD,uO⟩:=rY _ (Ij W l0 _);obtain⟨aqx,aqy⟩:=Ii P (book W.heap.size l0) (w:=W) hgo;have hWs:Wg<W.heap.size:=bG sU.gm.hW sU.gm.hB;have ajS:Wg∉l0:=λhx=>by have:=(sU.gm.DD _ hx).1;have:=sU.gm.hW;omega
 have hc:QN ty Wg C n l0 (λi=>¬M i) W (w'.out W.output):=hD.chg rfl ajS hWs sU.gm.hCW;have apD:Ro Wg C n B (λi=>¬M i) w' (gw (w'.out W.output) (l0++fresh W.heap.size (w'.out W.output).heap.size)):=ajK rfl aqy;have tr:∀a b c,Ro Wg C n B (λi=>¬M i) a b->Ro Wg C n B (λi=>¬M i) b c->Ro Wg C n B (λi=>¬M i) a c:=λ_ _ _ a b=>Ro.trans a b
 have MG:WgAt ty Wg (w'.out W.output) st sm:=by exact ay2
 refine ZZ hb ha sU KQ Ho hN aqx hc (λop uT=>?_) (λe he=>?_) (λe he=>?_) (deafBehind_idle (λe he=>?_) 0) (JO (dH tr uO apD)) MG ry (λe=>absurd e hne) (.inr ⟨rfl,hf⟩)
 .obtain⟨e,he,rfl⟩:=Go.Conc.mem_ofEvents uT;obtain⟨b,wr,rfl,qK,alz⟩:=hD.evs e he;refine⟨rfl,λx hx=>.inr ?_⟩;obtain⟨hl,hw⟩:=Sm hx;rw[hl,hw];have hB:=sU.gm.hB;have hWB:=sU.gm.hW;have hCB:=sU.gm.hC;rcases alz with h1|h1|⟨i',rfl,h1⟩|⟨h1,h2,h3,h4,h5⟩
  .rw[yZ]at h1;have xB:=sU.gm.DD _ h1;refine⟨ZX ag (λho=>by have:=sU.gm.old _ ho;omega),λk k1 kj ⟨_,_,b',e',hz⟩=>?_,λ_ k k1 kj ⟨_,b',e',z1,z2,z3,_⟩=>?_⟩
   .obtain rfl:=fF e';rcases hz with hz|hz
    .exact sU.gm.abJ (k-1) _ ag hz h1
    .rw[hz]at xB;dsimp only at xB;omega
   .obtain rfl:=fF e';omega
  .have h1':W.heap.size<=b.block:=h1;refine⟨ZX ag (λho=>by have:=sU.gm.old _ ho;omega),λk k1 kj ⟨_,_,b',e',hz⟩=>?_,λ_ k k1 kj ⟨_,b',e',z1,z2,z3,_⟩=>?_⟩
   .obtain rfl:=fF e';have:W.heap.size<=b.block:=h1;rcases hz with hz|hz
    .have:=sU.gm.own (k-1) ag _ hz;omega
    .rw[hz]at this;exact ayu
   .obtain rfl:=fF e';have:W.heap.size<=b.block:=h1;omega
  .refine⟨ZX sU.gm.hCW (λho=>(sU.gm.old _ ho).2 rfl),λk k1 kj ⟨_,_,b',e',hz⟩=>?_,λ_ k k1 kj ⟨_,b',e',z1,z2,z3,_⟩=>?_⟩
   .obtain rfl:=fF e';rcases hz with hz|hz
    .have:=sU.gm.own (k-1) ag _ hz;exact ayu
    .have e2:i'=ix (k-1):=by injection hz
     exact h1 (e2▸sU.gm.ixM (k-1) ag ag)
   .obtain rfl:=fF e';exact z3 rfl
  .refine⟨ZX h2 h5,λk k1 kj ⟨_,_,b',e',hz⟩=>?_,λZc=>by rw[h4]at Zc;cases Zc⟩
   .obtain rfl:=fF e';rcases hz with hz|hz
    .have:=sU.gm.own (k-1) ag _ hz;omega
    .rw[hz]at h3;exact h3 rfl
 .exact azh
 .obtain⟨b,wr,rfl,_,_⟩:=hD.evs e he;simp
 .obtain⟨b,wr,rfl,_,_⟩:=hD.evs e he;exact⟨ax,ax⟩
end
end Go.Gh
namespace Go.Gh
open Go.Conc Go.ConcN
open Go.ConcR (KK WgAt stA smA rd wr mk Payload DC0 g_of_ofEvents Bk ofEvent_loc_mark ofEvent_cell ofEvent_mk)
variable [Payload][rq][sF][yO]
section
variable {P:aN}{ty:aF}{Wg C n B:Nat}{M:Nat->Prop}{WP:Nat->ai->ah->Prop}{K:aA->aG->ah->Prop}{N:Nat}
 {gs:dE} {W W':ah} {sl:Option (Nat×Nat)} {j:Nat} {D:Nat->WD} {ix:Nat->Nat} {ow:Nat->aA} {tag tag':CTag} {r f0 f' d0 dd:Nat} {a a':aG} {t:Trace} {st sm st' sm':Int} {l0 ids:aA} {es:aH}
def Vr(P:aN)(ty:aF)(Wg C n B:Nat)(M:Nat->Prop)(WP:Nat->ai->ah->Prop)(K:aA->aG->ah->Prop)(N:Nat)(gs:dE)(W:ah)(sl:Option (Nat×Nat))(t:Trace)(μ:Nat×Nat):Prop:=
 ∃m₁ ops μ',runT P (crowd gs W sl) 0=(.next m₁,ops)/\Lt2 μ' μ/\Iv P ty Wg C n B M WP K N μ' m₁ (t++ops)
theorem Vr.mono{μ μ':Nat×Nat}(h:Vr P ty Wg C n B M WP K N gs W sl t μ)(hl:Lt2 μ μ'):Vr P ty Wg C n B M WP K N gs W sl t μ':=
 let⟨m₁,ops,ν,h1,h2,h3⟩:=h;⟨m₁,ops,ν,h1,lt2_trans h2 hl,h3⟩
structure Yy(P:aN)(ty:aF)(Wg C n B:Nat)(M:Nat->Prop)(WP:Nat->ai->ah->Prop)(K:aA->aG->ah->Prop)(N j r:Nat)(gs:dE)(W:ah)(t:Trace)(D:Nat->WD)(ix:Nat->Nat)(ow:Nat->aA)(l0 ids:aA)(d0:Nat)(a:aG)(st sm:Int):Prop where
 hb:Qd Wg C n B M WP K
 Ui:N<2147483648
 ha:gs[0]?=some a
 sU:Cm P ty Wg C n B M WP j gs W t D ix ow l0 d0
 xg:WgAt ty Wg W st sm
 KQ:∀i,sF.el<=i->i<j->ix i∈ids
 Ho:∀x∈ids,∃i,sF.el<=i/\i<j/\ix i=x
 hN:j+r=N
theorem Yy.hWs(h:Yy P ty Wg C n B M WP K N j r gs W t D ix ow l0 ids d0 a st sm):Wg<W.heap.size:=bG h.sU.gm.hW h.sU.gm.hB
theorem Yy.ro(h:Yy P ty Wg C n B M WP K N j r gs W t D ix ow l0 ids d0 a st sm)(hAs:Aside Wg W W')(hl:WgLive ty Wg W'):Ro Wg C n B (λi=>¬M i) (gw W l0) (gw W' l0):=
 (QN.of_wg (n:=n) (lo:=[]) (Cm:=λ_=>False) hAs hl h.sU.gm.hCW).ro h.sU.gm.hB ax (λb I9=>⟨ax,(h.sU.gm.DD b I9).2,by have:=(h.sU.gm.DD b I9).1;have:=h.sU.gm.hC;omega,by have:=(h.sU.gm.DD b I9).1;have:=h.sU.gm.hW;omega⟩) (λ_ _=>id)
theorem Yy.bkp(h:Yy P ty Wg C n B M WP K N j r gs W t D ix ow l0 ids d0 a st sm)(hgo:stepG P true a W=.go a' W' es)(hAs:Aside Wg W W')(MG:WgAt ty Wg W' st' sm')(Jk:∀e∈es,Bk Wg e)(hdd:deafBehind d0 es=dd)
  (JO:MS P ty Wg C n B M WP K ids l0 tag' r f' dd a' W') (IQ:ConcN.Mode j D tag' st' sm') (hne:tag'≠.ret) (qK:phi N (Vc j D) tag'<phi N (Vc j D) tag\/(phi N (Vc j D) tag'=phi N (Vc j D) tag/\f'<f0)):
  Vr P ty Wg C n B M WP K N gs W sl t (phi N (Vc j D) tag+Ssum j D,f0+2*Fsum j D):=
 ZZ h.hb h.ha h.sU h.KQ h.Ho h.hN hgo (QN.of_wg hAs ⟨_,_,MG⟩ h.sU.gm.hCW) (apC Jk) (ajP Jk (by rw[hAs.size];exact h.hWs)) (norel_of_Bk Jk) hdd
  (by rw[hAs.size,EU,d_];exact JO) MG IQ (λe=>absurd e hne) qK
theorem Yy.say(h:Yy P ty Wg C n B M WP K N j r gs W t D ix ow l0 ids d0 a st sm){e:Event}(hgo:stepG P true a W=.go a' W #[e])(ht:∀x,(MemAct.ofEvent e).touch?=some x->∃ad:Addr,x.loc=.cell ad/\ad.block=Wg/\x.kind=.said)
  (hne:e.loc≠.mark .disable/\e.loc≠.mark .enable/\e.loc≠.mark (.release (stA Wg)))
  (JO:MS P ty Wg C n B M WP K ids l0 tag' r f' d0 a' W) (IQ:ConcN.Mode j D tag' st sm) (En:tag'=.ret->NP Wg j (t++MemOp.ofEvents 0 a.frame.fn a.frame.place #[e]))
  (qK:phi N (Vc j D) tag'<phi N (Vc j D) tag\/(phi N (Vc j D) tag'=phi N (Vc j D) tag/\f'<f0)):
  Vr P ty Wg C n B M WP K N gs W sl t (phi N (Vc j D) tag+Ssum j D,f0+2*Fsum j D):=by
 refine ZZ h.hb h.ha h.sU h.KQ h.Ho h.hN hgo (.refl W) (λop uT=>?_) (λe' Ol=>?_) (λe' Ol=>?_) (deafBehind_idle (λe' Ol=>?_) d0)
  axR h.xg IQ En qK
 .obtain⟨e',Ol,rfl⟩:=Go.Conc.mem_ofEvents uT;obtain rfl:e'=e:=qf;refine⟨rfl,λx hx=>.inl ?_⟩;obtain⟨ad,h1,h2,h3⟩:=ht x hx;exact⟨.inl ⟨ad,h1,h2⟩,by rw[h3];simp⟩
 .obtain rfl:e'=e:=qf;intro x hx;obtain⟨ad,h1,h2,h3⟩:=ht x hx;refine⟨λad' e1=>?_,λe1=>(by rw[h3]at e1;cases e1),by rw[h1];rfl⟩;rw[h1]at e1;obtain rfl:=fF e1;rw[h2];exact h.hWs
 .obtain rfl:e'=e:=qf;exact hne.2.2
 .obtain rfl:e'=e:=qf;exact⟨hne.1,hne.2.1⟩
theorem Yy.idle(h:Yy P ty Wg C n B M WP K N j r gs W t D ix ow l0 ids d0 a st sm)(hgo:stepG P true a W=.go a' W #[])(JO:MS P ty Wg C n B M WP K ids l0 tag r f' d0 a' W)(ry:ConcN.Mode j D tag st sm)
  (En:tag=.ret->NP Wg j t) (hf:f'<f0):Vr P ty Wg C n B M WP K N gs W sl t (phi N (Vc j D) tag+Ssum j D,f0+2*Fsum j D):=by
 refine ZZ h.hb h.ha h.sU h.KQ h.Ho h.hN hgo (.refl W) (λop uT=>?_) ax ax rfl axR h.xg ry (λe=>(En e).app λi r _ _ hr=>hr.appOther g_of_ofEvents ag) (.inr ⟨rfl,hf⟩);obtain⟨e',Ol,rfl⟩:=Go.Conc.mem_ofEvents uT;simp at Ol
theorem Yy.kd1{m mm:Nat}{gT:aG}(h:Yy P ty Wg C n B M WP K N j (r+1) gs W t D ix ow l0 ids 0 a st sm)(ry:ConcN.Mode j D (.sp (r+1) 6) st sm)(hG:Goes P true (RL ty Wg) DC0 (AKd P ty Wg gT) m a W)
  (h0:Goes P true (Ro Wg C n B (λi=>¬M i)) (Dg Wg C n B (λi=>¬M i)) (AtGo P ty Wg C n B M WP (Sp P ty Wg C n B M WP K r) ids) mm gT (gw W l0)):
  Vr P ty Wg C n B M WP K N gs W sl t (phi N (Vc j D) (.sp (r+1) 6)+Ssum j D,m+2*Fsum j D):=by
 rcases Goes.cases hG with tK|⟨m',rfl,rY⟩
 .obtain⟨_,a',hgo,m₂,hk⟩:=tK W (CS ty Wg W);exact h.bkp hgo (.refl Wg W) h.xg bk_dis rfl (.a1 hk h0) (ry.reopen trivial trivial rfl ax) ax (.inl eU)
 .obtain⟨a',w',es,hgo,⟨rfl,rfl⟩,uO⟩:=rY W (CS ty Wg W);exact h.idle hgo (.kd1 uO h0) ry ax ag
theorem Yy.c2{m:Nat}(h:Yy P ty Wg C n B M WP K N j (r+1) gs W t D ix ow l0 ids 0 a st sm)(ry:ConcN.Mode j D (.sp (r+1) 1) st sm)
  (h0:Goes P true (Ro Wg C n B (λi=>¬M i)) (Dg Wg C n B (λi=>¬M i)) (AtGo P ty Wg C n B M WP (Sp P ty Wg C n B M WP K r) ids) m a (gw W l0)):
  Vr P ty Wg C n B M WP K N gs W sl t (phi N (Vc j D) (.sp (r+1) 1)+Ssum j D,m+2*Fsum j D):=by
 rcases Goes.cases h0 with tK|⟨m',rfl,rY⟩
 .obtain⟨_,a',child,idx,l,hsp,_,hid,hM,hl,⟨m₂,hwk⟩,qJ⟩:=tK _ (Ij W l0 _);obtain⟨aui,_⟩:=TI P (book W.heap.size l0) (w:=W) hsp;have auj:stepG P true a W=.spawn a' child W #[]:=aui;obtain⟨ho,rfl,rfl,_⟩:=ry.open_inv trivial;have FI:∀b∈l,b∈l0:=λb I9=>(yZ W l0 b).1 (hl b I9)
  have hl0:∀b,b∈l0.filter (λb=>decide (b∉l))↔b∈l0/\b∉l:=λb=>ax
  have Ox:=qJ (l0.filter (λb=>decide (b∉l))) (λb=>by rw[yZ];exact hl0 b);have ary:Sp P ty Wg C n B M WP K r (idx::ids) a' (gw W (l0.filter (λb=>decide (b∉l)))):=Ox;have Fp:=runT_crowd_spawn (P:=P) (sl:=sl) (i:=0) h.ha (by simpa using auj);rw[h.sU.size]at Fp
  have XU:=h.sU.spawn (a':=a') (x:={g:=0,fn:=a.frame.fn,pos:=a.frame.place,act:=.go (j+1)}) (y:={g:=j+1,fn:=child.frame.fn,pos:=a.frame.place,act:=.start}) ⟨rfl,rfl⟩ ⟨rfl,rfl⟩
   FI hl0 (λi MF hi e=>hid (by rw[<-(show ix i=idx from e)];exact h.KQ i MF hi)) hM (show Wk P ty Wg C n B WP idx m₂ child (gw W l)from hwk)
  have eV:Vc (j+1) (upd D j ⟨7,m₂+24,0⟩)=Vc j D+1:=by simp only[Vc,sumTo,upd_same];rw[sumTo_upd_out D _ cnt (az _)];rfl
  have eS:Ssum (j+1) (upd D j ⟨7,m₂+24,0⟩)=Ssum j D+7:=by simp only[Ssum,sumTo,upd_same];rw[sumTo_upd_out D _ WD.stage (az _)]
  have ho':OpenSt (j+1) (upd D j ⟨7,m₂+24,0⟩):=λi hi=>by
   by_cases e:i=j
   .subst e;rw[upd_same];simp
   .rw[upd_ne D _ e];exact ho i ag
  have ha':((gs.setIfInBounds 0 a').push child)[0]?=some a':=by rw[av_ (by simp[h.sU.size]),<-mf];simp[h.sU.size]
  have arz:∀i,sF.el<=i->i<j+1->upd ix j idx i∈idx::ids:=λi MF hi=>by
   by_cases e:i=j
   .subst e;rw[upd_same];simp
   .rw[upd_ne ix _ e];exact lU _ (h.KQ i MF ag)
  have arA:∀x∈idx::ids,∃i,sF.el<=i/\i<j+1/\upd ix j idx i=x:=λx hx=>by
   rcases dX.1 hx with rfl|hx
   .exact⟨j,h.sU.gm.hel,ag,upd_same _ _ _⟩
   .obtain⟨i,MF,hi,e⟩:=h.Ho x hx;exact⟨i,MF,ag,by rw[upd_ne ix _ ag];exact e⟩
  have est:∀tag',pend tag'=0->((Vc j D+pend (.sp (r+1) 1):Nat):Int)*KK=((Vc (j+1) (upd D j ⟨7,m₂+24,0⟩)+pend tag':Nat):Int)*KK:=λtag' hp=>by rw[eV,hp];simp[pend]
  have hN:=h.hN;cases r with
  |zero=>
   obtain⟨m₃,hk⟩:=ary
   refine⟨_,_,(phi N (Vc (j+1) (upd D j ⟨7,m₂+24,0⟩)) (.sp 0 7)+Ssum (j+1) (upd D j ⟨7,m₂+24,0⟩),m₃+2*Fsum (j+1) (upd D j ⟨7,m₂+24,0⟩)),Fp,Prod.Lex.left _ _ eU,
    _,W,sl,j+1,_,_,_,.sp 0 7,0,m₃,0,a',_,_,_,idx::ids,rfl,ha',.c0 hk,XU,h.xg,?_,ax,arz,arA,ag,rfl⟩
   rw[est (.sp 0 7) rfl];exact .opn trivial ho' ax
  |succ r'=>
   obtain⟨m₃,hk⟩:=ary
   refine⟨_,_,(phi N (Vc (j+1) (upd D j ⟨7,m₂+24,0⟩)) (.sp (r'+1) 7)+Ssum (j+1) (upd D j ⟨7,m₂+24,0⟩),m₃+2*Fsum (j+1) (upd D j ⟨7,m₂+24,0⟩)),Fp,Prod.Lex.left _ _ eU,
    _,W,sl,j+1,_,_,_,.sp (r'+1) 7,r'+1,m₃,0,a',_,_,_,idx::ids,rfl,ha',.c1 hk,XU,h.xg,?_,ax,arz,arA,ag,rfl⟩
   rw[est (.sp (r'+1) 7) rfl];exact .opn trivial ho' ax
 .exact Vq h.hb h.ha h.sU h.xg ry h.KQ h.Ho h.hN ax rY (λhh=>.c2 hh) ag
theorem Yy.kd{m:Nat}{gT:aG}{An:aG->ah->Prop}(h:Yy P ty Wg C n B M WP K N j 0 gs W t D ix ow l0 ids 0 a st sm)(ry:ConcN.Mode j D .kd st sm)(Qb:∀g w,An g w->g.status=.running)
  (Oo:∀g w,An g w->∃m,Goes P true (RL ty Wg) DC0 (WW1 P ty Wg gT An) m g w) (hG:Goes P true (RL ty Wg) DC0 (WKd P ty Wg An) m a W) (hK:K ids gT (gw W l0)):
  Vr P ty Wg C n B M WP K N gs W sl t (phi N (Vc j D) .kd+Ssum j D,m+2*Fsum j D):=by
 have hN:=h.hN;have hVj:=Vc_le j D;rcases Goes.cases hG with tK|⟨m',rfl,rY⟩
 .obtain⟨_,a',hgo,m₂,hk⟩:=tK W (CS ty Wg W);exact h.bkp hgo (.refl Wg W) h.xg bk_dis rfl (.anch Qb Oo hk hK) (ry.reopen trivial trivial rfl ax) ax (.inl eU)
 .obtain⟨a',w',es,hgo,⟨rfl,rfl⟩,uO⟩:=rY W (CS ty Wg W);exact h.idle hgo (.kd Qb Oo uO hK) ry ax ag
theorem Yy.w1{m:Nat}{gT:aG}{An:aG->ah->Prop}(h:Yy P ty Wg C n B M WP K N j 0 gs W t D ix ow l0 ids 1 a st sm)(ry:ConcN.Mode j D .w1 st sm)(Qb:∀g w,An g w->g.status=.running)
  (Oo:∀g w,An g w->∃m,Goes P true (RL ty Wg) DC0 (WW1 P ty Wg gT An) m g w) (hG:Goes P true (RL ty Wg) DC0 (WW1 P ty Wg gT An) m a W) (hK:K ids gT (gw W l0)):
  Vr P ty Wg C n B M WP K N gs W sl t (phi N (Vc j D) .w1+Ssum j D,m+2*Fsum j D):=by
 rcases Goes.cases hG with tK|⟨m',rfl,rY⟩
 .obtain⟨_,w_⟩:=tK W (CS ty Wg W);obtain⟨ho,rfl,rfl,_⟩:=ry.open_inv trivial;have hV:=Vc_le j D;have hN:=h.hN;have Ui:=h.Ui;have xg:=h.xg;obtain⟨a',hgo,h0,hne⟩:=w_ (Vc j D) ag awf;by_cases hv:Vc j D=0
  .obtain⟨m₂,hk⟩:=h0 hv;refine h.bkp hgo (.refl Wg W) h.xg bk_rd rfl (tag':=.ke) (.ke hk hK) ?_ ax (.inl eU);have e:((Vc j D+pend .w1:Nat):Int)*KK=0:=by rw[hv];simp[pend]
   rw[e];exact .fin trivial (allQuit_of ho hv)
  .obtain⟨m₂,hk⟩:=hne hv;exact h.bkp hgo (.refl Wg W) h.xg bk_rd rfl (tag':=.w2 (Vc j D)) (.w2 Qb Oo hk hK) (ry.reopen trivial trivial rfl (λvs e=>by cases e;omega)) ax (.inl eU)
 .obtain⟨a',w',es,hgo,⟨rfl,rfl⟩,uO⟩:=rY W (CS ty Wg W);exact h.idle hgo (.w1 Qb Oo uO hK) ry ax ag
omit [Payload][rq][sF][yO]in
theorem Vs{Wg:Nat}{x:Touch}:((MemAct.ofEvent (mk (.read (smA Wg)))).touch?=some x->∃ad:Addr,x.loc=.cell ad/\ad.block=Wg/\x.kind=.said)/\((MemAct.ofEvent (mk (.write (smA Wg)))).touch?=some x->∃ad:Addr,x.loc=.cell ad/\ad.block=Wg/\x.kind=.said):=by
 refine⟨λh=>?_,λh=>?_⟩<;>
 .simp only[mk,MemAct.ofEvent,MemAct.touch?,iE]at h;subst h;exact⟨_,rfl,rfl,rfl⟩
theorem asA(h:Yy P ty Wg C n B M WP K N j r gs W t D ix ow l0 ids d0 a st sm)(Rx:MS P ty Wg C n B M WP K ids l0 tag r f0 d0 a W)(ry:ConcN.Mode j D tag st sm)(En:tag=.ret->NP Wg j t)(sW:a.status=.running):
  (tag=.ret/\K ids a (gw W l0))\/Vr P ty Wg C n B M WP K N gs W sl t (phi N (Vc j D) tag+Ssum j D,f0+2*Fsum j D):=by
 have hVj:=Vc_le j D;have hN:=h.hN;have Ui:=h.Ui;have rl:=CS ty Wg W;have aok:WgLive ty Wg W:=⟨_,_,h.xg⟩;have tr:∀a b c,Ro Wg C n B (λi=>¬M i) a b->Ro Wg C n B (λi=>¬M i) b c->Ro Wg C n B (λi=>¬M i) a c:=λ_ _ _ a b=>Ro.trans a b
 cases Rx with
 |c1 h0=>
  refine .inr ?_;rcases Goes.cases h0 with tK|⟨m',rfl,rY⟩
  .obtain⟨_,gT,mm,auk,hG⟩:=tK _ (Ij W l0 _);obtain⟨m₂,hk⟩:=auk W aok;exact(h.kd1 (ry.reopen trivial trivial rfl ax) hk hG).mono (Prod.Lex.left _ _ eU)
  .exact Vq h.hb h.ha h.sU h.xg ry h.KQ h.Ho h.hN ax rY (λhh=>.c1 hh) ag
 |kd1 hG h0=>exact .inr (h.kd1 ry hG h0)
 |a1 hG h0=>
  refine .inr ?_;rcases Goes.cases hG with tK|⟨m',rfl,rY⟩
  .obtain⟨_,w_⟩:=tK W rl;obtain⟨ho,rfl,rfl,_⟩:=ry.open_inv trivial;have xg:=h.xg;obtain⟨a',hgo,hz,hnz⟩:=w_ (Vc j D) ag awf;have e:∀r s,s<=3->(((Vc j D:Nat):Int)+1)*KK=((Vc j D+pend (.sp r s):Nat):Int)*KK:=λr s hs=>by simp[pend,hs]
   have K_:=h.ro (aside_setCell W (stA Wg) (.int .u64 ((((Vc j D:Nat):Int)+1)*KK))) ⟨_,_,h.xg.setSt _⟩;by_cases hv:Vc j D=0
   .obtain⟨m₂,hk⟩:=hz hv;refine h.bkp hgo (aside_setCell W (stA Wg) _) (h.xg.setSt _) bk_rw rfl (.rd1 hk (dH tr h0 K_)) ?_ ax (.inl eU);rw[e _ 3 ag];exact .opn trivial ho ax
   .obtain⟨m₂,hk⟩:=hnz hv;refine h.bkp hgo (aside_setCell W (stA Wg) _) (h.xg.setSt _) bk_rw rfl (.ke1 hk (dH tr h0 K_)) ?_ ax (.inl eU);rw[e _ 2 ag];exact .opn trivial ho ax
  .obtain⟨a',w',es,hgo,⟨rfl,rfl⟩,uO⟩:=rY W rl;exact h.idle hgo (.a1 uO h0) ry ax ag
 |rd1 hG h0=>
  refine .inr ?_;rcases Goes.cases hG with tK|⟨m',rfl,rY⟩
  .obtain⟨_,a',hgo,m₂,hk⟩:=tK W rl;exact h.say hgo (λx hx=>Vs.1 hx) ⟨ig,ig,ig⟩ (.ke1 hk h0) (ry.reopen trivial trivial rfl ax) ax (.inl eU)
  .obtain⟨a',w',es,hgo,⟨rfl,rfl⟩,uO⟩:=rY W rl;exact h.idle hgo (.rd1 uO h0) ry ax ag
 |ke1 hG h0=>
  refine .inr ?_;rcases Goes.cases hG with tK|⟨m',rfl,rY⟩
  .obtain⟨_,a',hgo,m₂,hk⟩:=tK W rl;exact h.bkp hgo (.refl Wg W) h.xg bk_en rfl (.en1 hk h0) (ry.reopen trivial trivial rfl ax) ax (.inl eU)
  .obtain⟨a',w',es,hgo,⟨rfl,rfl⟩,uO⟩:=rY W rl;exact h.idle hgo (.ke1 uO h0) ry ax ag
 |en1 hG h0=>
  refine .inr ?_;rcases Goes.cases hG with tK|⟨m',rfl,rY⟩
  .obtain⟨_,rfl⟩:=tK W rl;exact(h.c2 ry h0).mono (Prod.Lex.right _ ag)
  .obtain⟨a',w',es,hgo,⟨rfl,rfl⟩,uO⟩:=rY W rl;exact h.idle hgo (.en1 uO h0) ry ax ag
 |c2 h0=>exact .inr (h.c2 ry h0)
 |c0 h0=>
  refine .inr ?_;rcases Goes.cases h0 with tK|⟨m',rfl,rY⟩
  .obtain⟨_,gT,⟨An,Qb,Oo,arB⟩,hK⟩:=tK _ (Ij W l0 _);obtain⟨m₂,hk⟩:=arB W aok;exact(h.kd (ry.reopen trivial trivial rfl ax) Qb Oo hk hK).mono (Prod.Lex.left _ _ eU)
  .exact Vq h.hb h.ha h.sU h.xg ry h.KQ h.Ho h.hN ax rY (λhh=>.c0 hh) ag
 |kd Qb Oo hG hK=>exact .inr (h.kd ry Qb Oo hG hK)
 |anch Qb Oo hG hK=>
  refine .inr ?_;rcases Goes.cases hG with tK|⟨m',rfl,rY⟩
  .obtain⟨m₂,hk⟩:=Oo a W (tK W rl);exact(h.w1 (ry.reopen trivial trivial rfl ax) Qb Oo hk hK).mono (Prod.Lex.left _ _ eU)
  .obtain⟨a',w',es,hgo,⟨rfl,rfl⟩,uO⟩:=rY W rl;exact h.idle hgo (.anch Qb Oo uO hK) ry ax ag
 |w1 Qb Oo hG hK=>exact .inr (h.w1 ry Qb Oo hG hK)
 |@w2 vs _ _ _ _ _ Qb Oo hG hK=>
  refine .inr ?_;rcases Goes.cases hG with tK|⟨m',rfl,rY⟩
  .obtain⟨_,w_⟩:=tK W rl;obtain⟨ho,rfl,rfl,yf⟩:=ry.open_inv trivial;obtain⟨hle,h1⟩:=yf vs rfl;have xg:=h.xg;obtain⟨aul,asB⟩:=w_ (Vc j D) ag awf;by_cases e:Vc j D=vs
   .obtain⟨a',hgo,m₂,hk⟩:=aul e;have K_:=h.ro (aside_setCell W (stA Wg) (.int .u64 (((Vc j D:Nat):Int)*KK+1))) ⟨_,_,h.xg.setSt _⟩;exact h.bkp hgo (aside_setCell W (stA Wg) _) (h.xg.setSt _) bk_rw rfl (.wr hk (h.hb.k _ _ _ _ K_ hK)) (.reg trivial ho ag) ax (.inl eU)
   .obtain⟨a',hgo,m₂,hk⟩:=asB e;exact h.bkp hgo (.refl Wg W) h.xg bk_rd rfl (.anch Qb Oo hk hK) (ry.reopen trivial trivial rfl ax) ax (.inl eU)
  .obtain⟨a',w',es,hgo,⟨rfl,rfl⟩,uO⟩:=rY W rl;exact h.idle hgo (.w2 Qb Oo uO hK) ry ax ag
 |wr hG hK=>
  refine .inr ?_;rcases Goes.cases hG with tK|⟨m',rfl,rY⟩
  .obtain⟨_,a',hgo,m₂,h60,hk⟩:=tK W rl;exact h.say hgo (λx hx=>Vs.2 hx) ⟨ig,ig,ig⟩ (.w3 hk hK) ry ax (.inr ⟨rfl,ag⟩)
  .obtain⟨a',w',es,hgo,⟨rfl,rfl⟩,uO⟩:=rY W rl;exact h.idle hgo (.wr uO hK) ry ax ag
 |w3 hG hK=>
  refine .inr ?_;rcases Goes.cases hG with tK|⟨m',rfl,rY⟩
  .obtain⟨_,asC,Qc,af2⟩:=tK W rl;have xg:=h.xg;cases ry with
   |opn h1 _ _=>exact h1.elim
   |reg h1 h2 h3=>exact h.bkp (Qc ⟨_,xg⟩) (.refl Wg W) xg ax rfl (.blk tK hK) (.reg trivial h2 h3) ax (.inr ⟨rfl,ag⟩)
   |last L h1 h2 h3 h4=>exact h.bkp (Qc ⟨_,xg⟩) (.refl Wg W) xg ax rfl (.blk tK hK) (.last L trivial h2 h3 h4) ax (.inr ⟨rfl,ag⟩)
   |sema h2=>
    obtain⟨a',hgo,m₂,hk⟩:=af2 xg;have K_:=h.ro (aside_setCell W (smA Wg) (.int .u32 0)) ⟨_,_,h.xg.setSm 0⟩;exact h.bkp hgo (aside_setCell W (smA Wg) _) (xg.setSm 0) bk_sem avl (.w4 hk (h.hb.k _ _ _ _ K_ hK)) (.fin trivial h2) ax (.inl eU)
   |fin h1 _=>exact h1.elim
  .obtain⟨a',w',es,hgo,⟨rfl,rfl⟩,uO⟩:=rY W rl;exact h.idle hgo (.w3 uO hK) ry ax ag
 |blk hG hK=>simp at sW
 |w4 hG hK=>
  refine .inr ?_;rcases Goes.cases hG with tK|⟨m',rfl,rY⟩
  .obtain⟨_,hx⟩:=tK W rl;obtain⟨hq,rfl,rfl⟩:=ry.fin_inv trivial;obtain⟨a',hgo,m₂,hk⟩:=hx h.xg;exact h.bkp hgo (.refl Wg W) h.xg bk_rd rfl (.ke hk hK) (.fin trivial hq) ax (.inl eU)
  .obtain⟨a',w',es,hgo,⟨rfl,rfl⟩,uO⟩:=rY W rl;exact h.idle hgo (.w4 uO hK) ry ax ag
 |ke hG hK=>
  refine .inr ?_;rcases Goes.cases hG with tK|⟨m',rfl,rY⟩
  .obtain⟨_,a',hgo,m₂,hk⟩:=tK W rl;obtain⟨hq,rfl,rfl⟩:=ry.fin_inv trivial;exact h.bkp hgo (.refl Wg W) h.xg bk_en rfl (.acq hk hK) (.fin trivial hq) ax (.inl eU)
  .obtain⟨a',w',es,hgo,⟨rfl,rfl⟩,uO⟩:=rY W rl;exact h.idle hgo (.ke uO hK) ry ax ag
 |acq hG hK=>
  refine .inr ?_;rcases Goes.cases hG with tK|⟨m',rfl,rY⟩
  .obtain⟨_,a',hgo,m₂,hk⟩:=tK W rl;obtain⟨hq,rfl,rfl⟩:=ry.fin_inv trivial;refine h.say hgo (λx hx=>lh) ⟨ig,ig,ig⟩ (.ret hk hK) (.fin trivial hq) (λ_=>?_) (.inl eU);have e1:MemOp.ofEvents 0 a.frame.fn a.frame.place #[mk (.acquire (stA Wg))]=#[{g:=0,fn:=a.frame.fn,pos:=a.frame.place,act:=.mark (.acquire (stA Wg))}]:=by rw[ofEvents_eq];simp[ofEvent_mk]
   have hy:(t++#[({g:=0,fn:=a.frame.fn,pos:=a.frame.place,act:=.mark (.acquire (stA Wg))}:MemOp)])[t.size]?=some {g:=0,fn:=a.frame.fn,pos:=a.frame.place,act:=.mark (.acquire (stA Wg))}:=ax;refine⟨t.size,by rw[e1,act?_of hy],by rw[e1];simp[Trace.g?],by rw[e1];exact⟨0,by simp[Trace.g?],by rw[deaf_old (az _)];exact h.sU.deaf0⟩,λi MF hi=>?_⟩;obtain⟨r,hr,hrs⟩:=h.sU.rel i MF hi (by rw[hq i hi];omega);exact⟨r,hr.appOther g_of_ofEvents ag,lt_of_act? hr.act,hrs⟩
  .obtain⟨a',w',es,hgo,⟨rfl,rfl⟩,uO⟩:=rY W rl;exact h.idle hgo (.acq uO hK) ry ax ag
 |ret hG hK=>
  rcases Goes.cases hG with tK|⟨m',rfl,rY⟩
  .obtain⟨_,rfl⟩:=tK W rl;exact .inl ⟨rfl,hK⟩
  .obtain⟨a',w',es,hgo,⟨rfl,rfl⟩,uO⟩:=rY W rl;exact .inr (h.idle hgo (.ret uO hK) ry En ag)
end
end Go.Gh
namespace Go.Gh
open Go.Conc Go.ConcN
open Go.ConcR (KK WgAt stA smA rd wr mk Payload DC0 g_of_ofEvents)
variable [Payload][rq][sF][yO]
omit [Payload][rq][sF][yO]in
theorem agT(act:MemAct):∃B,act.low B:=by
 cases act with
 |access e=>
  obtain⟨loc,_,_⟩:=e;cases loc with
  |cell a=>exact⟨a.block+1,dV _⟩
  |obj r=>exact⟨r+1,dV _⟩
  |_=>exact⟨0,trivial⟩
 |mark m=>
  cases m with
  |acquire a=>exact⟨a.block+1,dV _⟩
  |release a=>exact⟨a.block+1,dV _⟩
  |releaseMerge a=>exact⟨a.block+1,dV _⟩
  |read a=>exact⟨a.block+1,dV _⟩
  |write a=>exact⟨a.block+1,dV _⟩
  |_=>exact⟨0,trivial⟩
 |go _=>exact⟨0,trivial⟩
 |start=>exact⟨0,trivial⟩
 |send c _=>exact⟨c+1,dV _⟩
 |sendDone c _=>exact⟨c+1,dV _⟩
 |recv c _ _=>exact⟨c+1,dV _⟩
 |recvDone c _=>exact⟨c+1,dV _⟩
 |close c=>exact⟨c+1,dV _⟩
 |recvClosed c=>exact⟨c+1,dV _⟩
omit [Payload][rq][sF][yO]in
theorem Gi(t:Trace):∃B,∀op∈t,op.act.low B:=by
 have key:∀l:List MemOp,∃B,∀op∈l,op.act.low B:=by
  intro l
  induction l with
  |nil=>exact⟨0,ax⟩
  |cons x l ih=>
   obtain⟨B,hB⟩:=ih;obtain⟨B',hB'⟩:=agT x.act;refine⟨max B B',λop uT=>?_⟩;rcases dX.1 uT with rfl|uT
   .exact MemAct.low_mono (oU _ _) hB'
   .exact MemAct.low_mono (oV _ _) (hB op uT)
 obtain⟨B,hB⟩:=key t.toList;exact⟨B,λop uT=>hB op (by simpa using uT)⟩
section
variable {P:aN}{ty:aF}{Wg C n B:Nat}{M:Nat->Prop}{WP:Nat->ai->ah->Prop}{K:aA->aG->ah->Prop}{N:Nat}{Post:ai->ah->Prop}
 {gs:dE} {W W':ah} {sl:Option (Nat×Nat)} {j:Nat} {D:Nat->WD} {ix:Nat->Nat} {ow:Nat->aA} {tag:CTag} {r f0 d0:Nat} {a:aG} {t:Trace} {st sm:Int} {l0 ids:aA}
omit [yO][sF]in
theorem WS.running{idx s m d:Nat}{l:aA}{g:aG}(h:WS P ty Wg C n B WP idx l s m d g W)(hs:s≠1):g.status=.running:=by
 cases h with
 |comp h=>exact Goes.running (λ_ _ x=>x.1) (gw W l) (Ij W l _) h
 |lib h _ _ _=>exact h.running_of hs
omit [yO][sF]in
theorem MS.amR(h:MS P ty Wg C n B M WP K ids l0 tag r f0 d0 a W):pend tag<=r:=by cases h<;>simp[pend]
theorem agU(ha:gs[0]?=some a)(Rx:MS P ty Wg C n B M WP K ids l0 tag r f0 d0 a W)(sU:Cm P ty Wg C n B M WP j gs W t D ix ow l0 d0)(ry:ConcN.Mode j D tag st sm):∃(i:Nat)(g:aG),gs[i]?=some g/\g.status=.running:=by
 have away:∀i,(D i).stage≠1->sF.el<=i:=λi h=>Nat.le_of_not_lt λqK=>let⟨_,_,h1,_⟩:=sU.eld i qK;h h1
 rcases Rx.status with⟨hs,_⟩|⟨_,rfl⟩
 .exact⟨0,a,ha,hs⟩
 .cases ry with
  |opn h1 _ _=>exact h1.elim
  |reg _ _ h3=>
   obtain⟨i,hi,h5⟩:=exists_counted h3;obtain⟨g,hg,hs⟩:=sU.wk i (away i ag) hi;exact⟨i+1,g,hg,hs.running ag⟩
  |last L _ h2 h3 _=>
   obtain⟨g,hg,hs⟩:=sU.wk L (away L ag) h2;exact⟨L+1,g,hg,hs.running ag⟩
  |fin h1 _=>exact h1.elim
theorem ajT(ha:gs[0]?=some a)(Rx:MS P ty Wg C n B M WP K ids l0 tag r f0 d0 a W)(sU:Cm P ty Wg C n B M WP j gs W t D ix ow l0 d0):∀g∈gs,awake g:=by
 intro g hg tm;obtain⟨i,hi⟩:=pU.1 hg;cases i with
 |zero=>
  rw[ha]at hi;cases hi;rcases Rx.status with⟨hs,_⟩|⟨hs,_⟩<;>rw[hs]<;>simp
 |succ i=>
  have qK:i<j:=by have:=(dh.1 hi).1;rw[sU.size]at this;omega
  rcases bJ i sF.el with he|he
  .obtain⟨g',uO,_,hs⟩:=sU.eld i he;exact azl
  .obtain⟨g',uO,hs⟩:=sU.wk i he qK;exact azl
theorem Cm.ajU(h:Cm P ty Wg C n B M WP j gs W t D ix ow l0 d0){i:Nat}(hi:i<sF.el){g g':aG}{fn:aU}{pos:String}{es:aH}{q:Nat}(hm:∀e∈es,Event.mute e=true)(hq:QuitsD P q (deafBehind (D i).deaf es) g'):
  Cm P ty Wg C n B M WP j ((gs.map (woken P g g' W)).setIfInBounds (i+1) g') W (t++MemOp.ofEvents (i+1) fn pos es) (upd D i ⟨1,q,deafBehind (D i).deaf es⟩) ix ow l0 d0:=by
 have hel:=h.gm.hel;have Jk:∀e∈es,Go.ConcR.Bk Wg e:=λe he=>Go.ConcR.bk_of_mute (hm e he)
 have hne:O7 (MemOp.ofEvents (i+1) fn pos es):=λop uT=>by obtain⟨e,he,rfl⟩:=Go.Conc.mem_ofEvents uT;exact .inr (.inr (touch_mute (hm e he)))
 refine⟨kG,λi' FI La=>?_,λi' FI=>?_,h.past.app hne,h.over.app hne,h.ct.appW h.gm.apart ag ag (ajO Jk),h.norel.app (norel_of (norel_of_Bk Jk)),avA,
  Un h.low (az _) (λop uT=>by obtain⟨e,he,rfl⟩:=Go.Conc.mem_ofEvents uT;exact Ez (touch_mute (hm e he))),axS,λi' La=>?_,λi' FI La uw=>?_,h.pay,h.gm,h.out,h.os⟩
 .obtain⟨x,hx,hsx⟩:=h.wk i' FI La;refine⟨x,awM,?_⟩;rw[upd_ne D _ ag];exact hsx
 .by_cases e:i'=i
  .subst e;refine⟨g',get_map_set_same _ _ _ avv,?_⟩;rw[upd_same];exact⟨rfl,hq⟩
  .obtain⟨x,hx,Gy,Ug⟩:=h.eld i' FI;refine⟨x,awL,?_⟩;rw[upd_ne D _ e];exact⟨Gy,Ug⟩
 .by_cases e:i'=i
  .subst e;rw[Deaf_own,h.deafW i' La,upd_same]
  .exact az0
 .rw[upd_ne D _ ag]at uw;exact azJ
theorem ajU(ha:gs[0]?=some a)(Rx:MS P ty Wg C n B M WP K ids l0 tag r f0 d0 a W)(sU:Cm P ty Wg C n B M WP j gs W t D ix ow l0 d0)
  (xg:WgAt ty Wg W st sm) (ry:ConcN.Mode j D tag st sm) (En:tag=.ret->NP Wg j t) (KQ:∀i,sF.el<=i->i<j->ix i∈ids) (Ho:∀x∈ids,∃i,sF.el<=i/\i<j/\ix i=x) (hN:j+r=N)
  {i:Nat} (hi:i<sF.el) {g:aG} (hg:gs[i+1]?=some g) (sW:g.status=.running):
  ∃m₁ ops μ',runT P (crowd gs W sl) (i+1)=(.next m₁,ops)/\Lt2 μ' (phi N (Vc j D) tag+Ssum j D,f0+2*Fsum j D)/\Iv P ty Wg C n B M WP K N μ' m₁ (t++ops):=by
 obtain⟨x,hx,uw,hq⟩:=sU.eld i hi;obtain rfl:g=x:=by rw[hg]at hx;exact gp hx
 have WE:i<j:=by have:=sU.gm.hel;omega
 cases hf:(D i).fuel with
 |zero=>rw[hf]at hq;rw[hq.1]at sW;cases sW
 |succ q=>
  rw[hf]at hq;rcases hq with⟨h,_⟩|⟨_,g',es,hm,rY,hq'⟩
  .rw[h]at sW;cases sW
  obtain⟨tag',f',JO,hf',aeT,_⟩:=Rx.wokenBy g g';have ac2:=runT_crowd_go (P:=P) (sl:=sl) (i:=i+1) hg (by simpa using rY W);have e1:=sumTo_upd D (⟨1,q,deafBehind (D i).deaf es⟩:WD) cnt WE;have e2:=sumTo_upd D (⟨1,q,deafBehind (D i).deaf es⟩:WD) WD.stage WE;have e3:=sumTo_upd D (⟨1,q,deafBehind (D i).deaf es⟩:WD) WD.fuel WE
  have IQ:ConcN.Mode j (upd D i ⟨1,q,deafBehind (D i).deaf es⟩) tag st sm:=by have:=ry.same (i:=i) q (deafBehind (D i).deaf es);rwa[uw]at this
  refine⟨_,_,(phi N (Vc j (upd D i ⟨1,q,deafBehind (D i).deaf es⟩)) tag'+Ssum j (upd D i ⟨1,q,deafBehind (D i).deaf es⟩),f'+2*Fsum j (upd D i ⟨1,q,deafBehind (D i).deaf es⟩)),ac2,?_,
   _,W,sl,j,upd D i ⟨1,q,deafBehind (D i).deaf es⟩,ix,ow,tag',r,f',d0,woken P g g' W a,st,sm,l0,ids,rfl,axF,JO,sU.ajU hi hm hq',xg,IQ.retag aeT,λe=>?_,KQ,Ho,hN,rfl⟩
  .rw[phi_retag N _ aeT];simp only[Vc,Ssum,Fsum]at*;have ec:cnt (⟨1,q,deafBehind (D i).deaf es⟩:WD)=cnt (D i):=by simp only[cnt,uw]
   have ev:(sumTo j λa=>cnt (upd D i ⟨1,q,deafBehind (D i).deaf es⟩ a))=sumTo j λa=>cnt (D a):=ag
   have rZ:(sumTo j λa=>(upd D i ⟨1,q,deafBehind (D i).deaf es⟩ a).stage)=sumTo j λa=>(D a).stage:=ag
   rw[ev,rZ];refine Prod.Lex.right _ ?_;omega
  .have e':tag=.ret:=by
    rcases aeT with rfl|⟨_,rfl⟩
    .exact e
    .cases e
   exact(En e').app λi' r hl _ hr=>hr.appOther g_of_ofEvents ag
theorem agV(sU:Cm P ty Wg C n B M WP j gs W t D ix ow l0 0)(En:NP Wg j t){B':Nat}(hB:∀op∈t,op.act.low B'):Past (H_ Wg) B' t:=by
 obtain⟨q,h1,h2,h3,h4⟩:=En
 have hg:∀i g,t.g? i=some g->sF.el<g->∃r,RelBy (stA Wg) t g r/\r<q/\sF.ts<=r:=by intro i g hgi hne;obtain⟨op,ho,rfl⟩:=dL.1 hgi;have:=sU.ct.gs i op ho;have:=h4 (op.g-1) ag ag;rwa[show op.g-1+1=op.g by omega]at this
 have edge:∀{g r:Nat},RelBy (stA Wg) t g r->r<q->sF.ts<=r->HappensBefore t r q:=λhr hrq hrs=>.single (.inr ⟨.marked hrq (.inr hr.act) h1 (λk hk _=>sU.norel k ag),hr.heard,h3⟩)
 have arC:t.HandedOver:=by
  intro i g hgi hne hc;rcases bJ sF.el g with he|he
  .obtain⟨r,hr,hrq,hrs⟩:=hg i g hgi he;have hle:i<=r:=Nat.le_of_not_lt λqK=>hr.after i qK hgi hc
   rcases bJ i r with qK|Ws
   .exact⟨q,h2,.trans (.single (.inl ⟨qK,g,hgi,hr.g⟩)) (edge hr hrq hrs)⟩
   .obtain rfl:i=r:=ag;exact⟨q,h2,edge hr hrq hrs⟩
  .exact sU.over i g hgi hne he hc
 have hq0:∃z,t[q]?=some z/\z.g=0:=by obtain⟨z,hz,hz'⟩:=dL.1 h2;exact⟨z,hz,hz'⟩
 refine⟨sU.ct.nr,λi x hx hm=>?_,arC,sU.deaf0,hB⟩;obtain⟨op,ho,hox⟩:=touch_of hx;by_cases hz:op.g=0
 .exact .inl (by have:=knows_own ho;rwa[hz]at this)
 .rcases bJ sF.el op.g with he|he
  .obtain⟨r,hr,hrq,hrs⟩:=hg i op.g awo he;obtain⟨z,xA,wH⟩:=hq0;rcases bJ r i with qK|Ws
   .have hnc:=hr.after i qK awo;refine .inr ?_
    have hat:x.kind=.atomic:=by
     by_cases hk:x.kind=.atomic
     .exact hk
     .exact absurd ⟨x,hx,hm,.inl hk⟩ hnc
    exact⟨.inl ((sU.low op (fZ ho) x hox).2.1 he hat),hat⟩
   .refine .inl ⟨q,z,xA,wH,.inr ?_⟩;rcases bJ i r with qK|au7
    .exact .trans (.single (.inl ⟨qK,op.g,awo,hr.g⟩)) (edge hr hrq hrs)
    .obtain rfl:i=r:=ag;exact edge hr hrq hrs
  .exact sU.past i op x ho hox hm hz he
theorem Z4(sU:Cm P ty Wg C n B M WP j gs W t D ix ow l0 0)(hq:AllQuit j D):Leavers P t gs (λi=>(D (i-1)).fuel):=by
 refine⟨λi g hi hg=>?_,λi hi=>?_⟩
 .obtain⟨i',rfl⟩:∃i',i=i'+1:=⟨i-1,ag⟩;have qK:i'<j:=by have:=(dh.1 hg).1;rw[sU.size]at this;omega
  rw[sU.deafW i' qK];rcases bJ i' sF.el with he|he
  .obtain⟨g',uO,_,xU⟩:=sU.eld i' he;rw[hg]at uO;cases uO;exact xU
  .obtain⟨g',uO,xU⟩:=sU.wk i' he qK;rw[hg]at uO;cases uO;rw[hq i' qK]at xU;exact xU.quits
 .exact Deaf_absent λa op ha e=>by have:=sU.ct.gs a op ha;rw[sU.size]at hi;omega
structure JP(Shun:Loc->Prop)(sz e:Nat)(t:Trace):Prop where
 quiet:Quiet Shun t
 gs:∀op∈t,op.g<=e
 low:∀op∈t,∀x,op.act.touch?=some x->(∀ad,x.loc=.cell ad->ad.block<sz)/\(op.g≠0->x.loc.isMemory=true)
theorem agW(sU:Cm P ty Wg C n B M WP j gs W t D ix ow l0 0):JP (H_ Wg) W.heap.size j t:=
 ⟨sU.ct.quiet,λop uT=>let⟨i,hi⟩:=pU.1 uT;sU.ct.gs i op hi,λop uT x hx=>⟨(sU.low op uT x hx).1,(sU.low op uT x hx).2.2⟩⟩
theorem Yz{q:Nat->Nat}{B₀:Nat}(ha:gs[0]?=some a)(hsz:gs.size=sF.el+1)(hL:Leavers P t gs q)(hP:Past (H_ Wg) B₀ t)(hT:JP (H_ Wg) W.heap.size sF.el t)(hts:t.size=sF.ts)
  (hold:∀b,rq.old b->b<B/\b≠C) (hW:Wg<B) (hC:C<B) (hCW:C≠Wg) (hB:B<=W.heap.size) (xg:WgAt ty Wg W 0 0) (aqz:PayAt C n W) (hsp:Sp P ty Wg C n B M WP K N [] a (gw W []))
  (ho:W.output=yO.o0) (hos:W.os=yO.os0):
  ∃μ,Iv P ty Wg C n B M WP K (sF.el+N) μ (crowd gs W sl) t:=by
 have kn:∀l,¬H_ Wg l->Perm t 0 l:=λl hl i x hx e=>by
  obtain⟨op,ho,hox⟩:=touch_of hx;by_cases h0:op.g=0
  .have:=knows_own ho;rwa[h0]at this
  .rcases hP.known i x hx ((hT.low op (fZ ho) x hox).2 h0)with h|⟨h,_⟩
   .exact h
   .exact absurd (e▸h) hl
 have gm:Gm Wg C B M sF.el (λ_=>0) (λ_=>[]) [] W.heap.size:=⟨hW,hC,hCW,hB,λ_ _=>ax,ax,λ_ _ _ _ _ h=>absurd h ax,λ_ _ _ h=>absurd h ax,λ_ _ h _ h'=>absurd h ag,λ_ h h'=>absurd h ag,az _,hold⟩
 have ct:CT (H_ Wg) (Xg C sF.el (λ_=>0) (λ_=>[])) (RdF Wg C B) t sF.el:=
  ⟨hT.quiet,λk _ kj l hl=>absurd hl.1 ag,λk _ kj l hl=>absurd hl.1 ag,λl hs _=>kn l hs,λl hs _=>.of (kn l hs),hP.clean,
   λi op hi=>hT.gs op (fZ hi)⟩
 have get:∀i,i<sF.el->∃g,gs[i+1]?=some g:=λi hi=>⟨gs[i+1]' ag,mf ag⟩
 have cm:Cm P ty Wg C n B M WP sF.el gs W t (λi=>⟨1,q (i+1),Deaf t (i+1)⟩) (λ_=>0) (λ_=>[]) [] 0:=
  ⟨hsz,λi h h'=>absurd h ag,λi hi=>let⟨g,hg⟩:=get i hi;⟨g,hg,rfl,hL.old (i+1) g ag hg⟩,λi op x hi hx hm h0 _=>(hP.known i x (by rw[touchAt_of hi];exact hx) hm),λi g hg hne _ hc=>hP.over i g hg hne hc,ct,
   λi hi e=>by obtain⟨op,uT,_⟩:=dL.1 e;have:=lt_size_of_getElem? uT;omega,fQ hts.symm,
   λop uT x hx=>⟨(hT.low op uT x hx).1,λh=>by have:=hT.gs op uT;omega,(hT.low op uT x hx).2⟩,hP.hears,λ_ _=>rfl,λi h h'=>absurd h ag,aqz,gm,ho,hos⟩
 have hV:Vc sF.el (λi=>(⟨1,q (i+1),Deaf t (i+1)⟩:WD))=0:=by
  have:∀n,(sumTo n λa=>cnt (⟨1,q (a+1),Deaf t (a+1)⟩:WD))=0:=λn=>by
   induction n with
   |zero=>rfl
   |succ n ih=>simp only[sumTo,ih];rfl
  exact this _
 have md:∀tag,isOpen tag->pend tag=0->(∀vs,tag≠.w2 vs)->ConcN.Mode sF.el (λi=>(⟨1,q (i+1),Deaf t (i+1)⟩:WD)) tag 0 0:=λtag h1 h2 h3=>by have:=ConcN.Mode.opn (j:=sF.el) (D:=λi=>(⟨1,q (i+1),Deaf t (i+1)⟩:WD)) h1 (λ_ _=>ax) (λvs e=>absurd e (h3 vs));rw[h2,hV]at this;exact ayh
 cases N with
 |zero=>
  obtain⟨m,hm⟩:=hsp;exact⟨_,gs,W,sl,sF.el,_,_,_,.sp 0 7,0,m,0,a,0,0,[],[],rfl,ha,.c0 hm,cm,xg,md _ trivial rfl ax,ax,λ_ h h'=>absurd h ag,ax,rfl,rfl⟩
 |succ r=>
  obtain⟨m,hm⟩:=hsp;exact⟨_,gs,W,sl,sF.el,_,_,_,.sp (r+1) 7,r+1,m,0,a,0,0,[],[],rfl,ha,.c1 hm,cm,xg,md _ trivial rfl ax,ax,λ_ h h'=>absurd h ag,ax,rfl,rfl⟩
end
#print axioms Yz

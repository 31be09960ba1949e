import Derived.Test.YtnbflnamlpodcaaGreatDoorGhD
import Derived.Test.YtnbflnamlpodcaaGreatDoorGhE
set_option maxHeartbeats 1600000
namespace Go.Gh
open Go.Conc Go.ConcN
open Go.ConcR (KK WgAt stA smA rd wr mk Payload DC0 again_blocked)
variable [Payload][qN]
def VR(_:Nat)(_:Loc):Prop:=False
section
variable (P:Program)(ty:TypeId)(Wg C n B:Nat)(M:Nat->Prop)(WP:Nat->Value->World->Prop)(K:List Nat->Goroutine->World->Prop)
def ajX(idx:Nat)(g:Goroutine)(w:World):Prop:=
 g.status=.running/\∃v,WP idx v w/\Has C idx v w/\∀W,WgLive ty Wg W->Has C idx v W->Goes P false (RW ty Wg C n 0 (idx+1-1)) (DWs Wg VR VR C n (idx+1)) (AtR0 P ty Wg C n 0 (idx+1) v) 23 g W
def Wk(idx m:Nat)(g:Goroutine)(w:World):Prop:=Goes P false (Ro Wg C n B (· =idx)) (Dg Wg C n B (· =idx)) (ajX P ty Wg C n WP idx) m g w
def ag6(ids:List Nat)(g:Goroutine)(w:World):Prop:=g.status=.running/\∃gT,aix P ty Wg gT g/\K ids gT w
def AtGo(Next:List Nat->Goroutine->World->Prop)(ids:List Nat)(g:Goroutine)(w:World):Prop:=
 g.status=.running/\∃g' child idx l,stepG P true g w=.spawn g' child w #[]/\child.status=.running/\idx∉ids/\M idx/\(∀b∈l,Mine w b)/\
  (∃m,Wk P ty Wg C n B WP idx m child (w.out (book w.heap.size l)))/\∀l',(∀b,b∈l'↔Mine w b/\b∉l)->Next (idx::ids) g' (w.out (book w.heap.size l'))
def aaS(Next:List Nat->Goroutine->World->Prop)(ids:List Nat)(g:Goroutine)(w:World):Prop:=
 g.status=.running/\∃gT mm,ald P ty Wg gT g/\(Goes P true (Ro Wg C n B (λi=>¬M i)) (Dg Wg C n B (λi=>¬M i))) (AtGo P ty Wg C n B M WP Next ids) mm gT w
def Sp:Nat->List Nat->Goroutine->World->Prop
 |0,ids,g,w=>∃m,(Goes P true (Ro Wg C n B (λi=>¬M i)) (Dg Wg C n B (λi=>¬M i))) (ag6 P ty Wg K ids) m g w
 |r+1,ids,g,w=>∃m,(Goes P true (Ro Wg C n B (λi=>¬M i)) (Dg Wg C n B (λi=>¬M i))) (aaS P ty Wg C n B M WP (Sp r) ids) m g w
inductive WS (idx:Nat) (l:List Nat):Nat->Nat->Nat->Goroutine->World->Prop
 |comp {m:Nat} {g:Goroutine} {W:World}:Wk P ty Wg C n B WP idx m g (gw W l)->WS idx l 7 (m+24) 0 g W
 |lib {v:Value} {s m d:Nat} {g:Goroutine} {W:World}:WSit P ty Wg C n VR VR 0 (idx+1) v s m d g W->(s=7->m<=23)->WP idx v (gw W l)->(s<=6->Has C idx v W)->WS idx l s m d g W
inductive MS (ids:List Nat) (l:List Nat):CTag->Nat->Nat->Nat->Goroutine->World->Prop
 |c1 {r m:Nat} {g:Goroutine} {W:World}:(Goes P true (Ro Wg C n B (λi=>¬M i)) (Dg Wg C n B (λi=>¬M i))) (aaS P ty Wg C n B M WP (Sp P ty Wg C n B M WP K r) ids) m g (gw W l)->MS ids l (.sp (r+1) 7) (r+1) m 0 g W
 |kd1 {r m mm:Nat} {g gT:Goroutine} {W:World}:(Goes P true (RL ty Wg) DC0) (AKd P ty Wg gT) m g W->(Goes P true (Ro Wg C n B (λi=>¬M i)) (Dg Wg C n B (λi=>¬M i))) ((AtGo P ty Wg C n B M WP) (Sp P ty Wg C n B M WP K r) ids) mm gT (gw W l)->MS ids l (.sp (r+1) 6) (r+1) m 0 g W
 |a1 {r m mm:Nat} {g gT:Goroutine} {W:World}:(Goes P true (RL ty Wg) DC0) (AA1 P ty Wg gT) m g W->(Goes P true (Ro Wg C n B (λi=>¬M i)) (Dg Wg C n B (λi=>¬M i))) ((AtGo P ty Wg C n B M WP) (Sp P ty Wg C n B M WP K r) ids) mm gT (gw W l)->MS ids l (.sp (r+1) 5) (r+1) m 1 g W
 |rd1 {r m mm:Nat} {g gT:Goroutine} {W:World}:(Goes P true (RL ty Wg) DC0) (ARd P ty Wg gT) m g W->(Goes P true (Ro Wg C n B (λi=>¬M i)) (Dg Wg C n B (λi=>¬M i))) ((AtGo P ty Wg C n B M WP) (Sp P ty Wg C n B M WP K r) ids) mm gT (gw W l)->MS ids l (.sp (r+1) 3) (r+1) m 1 g W
 |ke1 {r m mm:Nat} {g gT:Goroutine} {W:World}:(Goes P true (RL ty Wg) DC0) (AKe P ty Wg gT) m g W->(Goes P true (Ro Wg C n B (λi=>¬M i)) (Dg Wg C n B (λi=>¬M i))) ((AtGo P ty Wg C n B M WP) (Sp P ty Wg C n B M WP K r) ids) mm gT (gw W l)->MS ids l (.sp (r+1) 2) (r+1) m 1 g W
 |en1 {r m mm:Nat} {g gT:Goroutine} {W:World}:(Goes P true (RL ty Wg) DC0) (afc gT) m g W->(Goes P true (Ro Wg C n B (λi=>¬M i)) (Dg Wg C n B (λi=>¬M i))) ((AtGo P ty Wg C n B M WP) (Sp P ty Wg C n B M WP K r) ids) mm gT (gw W l)->MS ids l (.sp (r+1) 1) (r+1) (m+mm+1) 0 g W
 |c2 {r m:Nat} {g:Goroutine} {W:World}:(Goes P true (Ro Wg C n B (λi=>¬M i)) (Dg Wg C n B (λi=>¬M i))) ((AtGo P ty Wg C n B M WP) (Sp P ty Wg C n B M WP K r) ids) m g (gw W l)->MS ids l (.sp (r+1) 1) (r+1) m 0 g W
 |c0 {m:Nat} {g:Goroutine} {W:World}:(Goes P true (Ro Wg C n B (λi=>¬M i)) (Dg Wg C n B (λi=>¬M i))) (ag6 P ty Wg K ids) m g (gw W l)->MS ids l (.sp 0 7) 0 m 0 g W
 |kd {m:Nat} {g gT:Goroutine} {An:Goroutine->World->Prop} {W:World}:(∀g w,An g w->g.status=.running)->(∀g w,An g w->∃m,(Goes P true (RL ty Wg) DC0) (WW1 P ty Wg gT An) m g w)->(Goes P true (RL ty Wg) DC0) (WKd P ty Wg An) m g W->K ids gT (gw W l)->MS ids l .kd 0 m 0 g W
 |anch {m:Nat} {g gT:Goroutine} {An:Goroutine->World->Prop} {W:World}:(∀g w,An g w->g.status=.running)->(∀g w,An g w->∃m,(Goes P true (RL ty Wg) DC0) (WW1 P ty Wg gT An) m g w)->(Goes P true (RL ty Wg) DC0) An m g W->K ids gT (gw W l)->MS ids l .anch 0 m 1 g W
 |w1 {m:Nat} {g gT:Goroutine} {An:Goroutine->World->Prop} {W:World}:(∀g w,An g w->g.status=.running)->(∀g w,An g w->∃m,(Goes P true (RL ty Wg) DC0) (WW1 P ty Wg gT An) m g w)->(Goes P true (RL ty Wg) DC0) (WW1 P ty Wg gT An) m g W->K ids gT (gw W l)->MS ids l .w1 0 m 1 g W
 |w2 {vs m:Nat} {g gT:Goroutine} {An:Goroutine->World->Prop} {W:World}:(∀g w,An g w->g.status=.running)->(∀g w,An g w->∃m,(Goes P true (RL ty Wg) DC0) (WW1 P ty Wg gT An) m g w)->(Goes P true (RL ty Wg) DC0) (WW2 P ty Wg gT An vs) m g W->K ids gT (gw W l)->MS ids l (.w2 vs) 0 m 1 g W
 |wr {m:Nat} {g gT:Goroutine} {W:World}:(Goes P true (RL ty Wg) DC0) (WWr P ty Wg gT) m g W->K ids gT (gw W l)->MS ids l .w3 0 (m+62) 1 g W
 |w3 {m:Nat} {g gT:Goroutine} {W:World}:(Goes P true (RL ty Wg) DC0) (WW3 P ty Wg gT) m g W->K ids gT (gw W l)->MS ids l .w3 0 (m+1) 1 g W
 |blk {g gT:Goroutine} {W:World}:(∀W₁,RL ty Wg W W₁->WW3 P ty Wg gT g W₁)->K ids gT (gw W l)->MS ids l .blk 0 0 1 {g with status:=.blocked} W
 |w4 {m:Nat} {g gT:Goroutine} {W:World}:(Goes P true (RL ty Wg) DC0) (WW4 P ty Wg gT) m g W->K ids gT (gw W l)->MS ids l .w4 0 m 1 g W
 |ke {m:Nat} {g gT:Goroutine} {W:World}:(Goes P true (RL ty Wg) DC0) (WKe P ty Wg gT) m g W->K ids gT (gw W l)->MS ids l .ke 0 m 1 g W
 |acq {m:Nat} {g gT:Goroutine} {W:World}:(Goes P true (RL ty Wg) DC0) (ale P ty Wg gT) m g W->K ids gT (gw W l)->MS ids l .acq 0 m 0 g W
 |ret {m:Nat} {g gT:Goroutine} {W:World}:(Goes P true (RL ty Wg) DC0) (afc gT) m g W->K ids gT (gw W l)->MS ids l .ret 0 m 0 g W
end
omit [Payload][qN]in
theorem zN(ty:TypeId)(Wg:Nat)(w:World):RL ty Wg w w:=id
omit [Payload][qN]in
theorem afe(ty:TypeId)(Wg:Nat):∀a b c,RL ty Wg a b->RL ty Wg b c->RL ty Wg a c:=λ_ _ _ h h'=>h'∘h
section
variable {P:Program}{ty:TypeId}{Wg C n B:Nat}{M:Nat->Prop}{WP:Nat->Value->World->Prop}{K:List Nat->Goroutine->World->Prop}
 {lo l ids:List Nat} {Cm:Nat->Prop} {W W':World} {idx s m d r f:Nat} {g:Goroutine} {tag:CTag}
theorem WS.rely(hWP:∀v w w₁,Ro Wg C n B (λ_=>False) w w₁->WP idx v w->WP idx v w₁)(h:WS P ty Wg C n B WP idx l s m d g W)(hc:LY ty Wg C n lo Cm W W')(hB:B<=W.heap.size)(hlo:∀b∈lo,B<=b)
  (hl:∀b∈l,b∉lo/\b<W.heap.size/\b≠C/\b≠Wg) (hCm:¬Cm idx):WS P ty Wg C n B WP idx l s m d g W':=by
 have hro:Ro Wg C n B (· =idx) (gw W l) (gw W' l):=hc.ro hB hlo hl (λi hi=>by subst hi;exact hCm);cases h with
 |comp h=>
  have tr:∀a b c,Ro Wg C n B (· =idx) a b->Ro Wg C n B (· =idx) b c->Ro Wg C n B (· =idx) a c:=λ_ _ _ a b=>Ro.trans a b
  exact .comp (bJ tr h hro)
 |lib h1 h2 h3 h4=>exact .lib (h1.rely ⟨λb hb=>ae,hc.live,hc.pay,by simpa using hc.cells idx hCm⟩) h2 (hWP _ _ _ (hc.ro hB hlo hl (λ_=>False.elim)) h3) (λh=>(hc.cells idx hCm).trans (h4 h))
theorem WS.status(h:WS P ty Wg C n B WP idx l s m d g W):g.status=.running\/g.status=.finished:=by
 cases h with
 |comp h=>
  refine .inl (Goes.running (λ_ _ x=>x.1) (gw W l) ⟨ak _,rfl,rfl,?_,λb=>?_,λ_ _ _ _=>rfl,λ_ _=>rfl,λ_ _=>rfl,id⟩ h)
  .unfold gw;rw[vV];rfl
  .rw[xm];unfold gw;rw[uw]
 |lib h1 _ _ _=>exact h1.status
theorem WS.woken(h:WS P ty Wg C n B WP idx l s m d g W)(a a':Goroutine)(w':World):woken P a a' w' g=g:=by
 unfold Go.Conc.woken;split
 .exact again_running _ h.status
 .rfl
theorem WS.quits(h:WS P ty Wg C n B WP idx l 1 m d g W):QuitsD P m d g:=by
 cases h with
 |lib h1 _ _ _=>exact h1.quits rfl
omit [qN]in
theorem Eu(W:World)(l:List Nat)(Cl:Nat->Prop):Ro Wg C n B Cl (gw W l) (gw W l):=by
 refine⟨ak _,rfl,rfl,?_,λb=>?_,λ_ _ _ _=>rfl,λ_ _=>rfl,λ_ _=>rfl,id⟩
 .unfold gw;rw[vV];rfl
 .rw[xm];unfold gw;rw[uw]
theorem MS.rely(hK:∀ids g w w₁,Ro Wg C n B (λi=>¬M i) w w₁->K ids g w->K ids g w₁)(h:MS P ty Wg C n B M WP K ids l tag r f d g W)(hc:LY ty Wg C n lo Cm W W')(hB:B<=W.heap.size)(hlo:∀b∈lo,B<=b)
  (hl:∀b∈l,b∉lo/\b<W.heap.size/\b≠C/\b≠Wg) (hCm:∀i,Cm i->M i):MS P ty Wg C n B M WP K ids l tag r f d g W':=by
 have hro:Ro Wg C n B (λi=>¬M i) (gw W l) (gw W' l):=hc.ro hB hlo hl (λi hi hm=>hi (hCm i hm));have tr:∀a b c,Ro Wg C n B (λi=>¬M i) a b->Ro Wg C n B (λi=>¬M i) b c->Ro Wg C n B (λi=>¬M i) a c:=λ_ _ _ a b=>Ro.trans a b
 have hrl:RL ty Wg W W':=hc.live;have tl:=afe ty Wg;cases h with
 |c1 h=>exact .c1 (bJ tr h hro)
 |kd1 h h'=>exact .kd1 (bJ tl h hrl) (bJ tr h' hro)
 |a1 h h'=>exact .a1 (bJ tl h hrl) (bJ tr h' hro)
 |rd1 h h'=>exact .rd1 (bJ tl h hrl) (bJ tr h' hro)
 |ke1 h h'=>exact .ke1 (bJ tl h hrl) (bJ tr h' hro)
 |en1 h h'=>exact .en1 (bJ tl h hrl) (bJ tr h' hro)
 |c2 h=>exact .c2 (bJ tr h hro)
 |c0 h=>exact .c0 (bJ tr h hro)
 |kd a b h k=>exact .kd a b (bJ tl h hrl) (hK _ _ _ _ hro k)
 |anch a b h k=>exact .anch a b (bJ tl h hrl) (hK _ _ _ _ hro k)
 |w1 a b h k=>exact .w1 a b (bJ tl h hrl) (hK _ _ _ _ hro k)
 |w2 a b h k=>exact .w2 a b (bJ tl h hrl) (hK _ _ _ _ hro k)
 |wr h k=>exact .wr (bJ tl h hrl) (hK _ _ _ _ hro k)
 |w3 h k=>exact .w3 (bJ tl h hrl) (hK _ _ _ _ hro k)
 |blk h k=>exact .blk (λW₂ h₂=>h W₂ (h₂∘hrl)) (hK _ _ _ _ hro k)
 |w4 h k=>exact .w4 (bJ tl h hrl) (hK _ _ _ _ hro k)
 |ke h k=>exact .ke (bJ tl h hrl) (hK _ _ _ _ hro k)
 |acq h k=>exact .acq (bJ tl h hrl) (hK _ _ _ _ hro k)
 |ret h k=>exact .ret (bJ tl h hrl) (hK _ _ _ _ hro k)
theorem MS.status(h:MS P ty Wg C n B M WP K ids l tag r f d g W):(g.status=.running/\tag≠.blk)\/(g.status=.blocked/\tag=.blk):=by
 have r0:=Eu (Wg:=Wg) (C:=C) (n:=n) (B:=B) W l (λi=>¬M i);have rl:=zN ty Wg W;cases h with
 |c1 h=>exact .inl ⟨Goes.running (λ_ _ x=>x.1) _ r0 h,ai⟩
 |kd1 h _=>exact .inl ⟨Goes.running (λ_ _ x=>x.1) _ rl h,ai⟩
 |a1 h _=>exact .inl ⟨Goes.running (λ_ _ x=>x.1) _ rl h,ai⟩
 |rd1 h _=>exact .inl ⟨Goes.running (λ_ _ x=>x.1) _ rl h,ai⟩
 |ke1 h _=>exact .inl ⟨Goes.running (λ_ _ x=>x.1) _ rl h,ai⟩
 |en1 h _=>exact .inl ⟨Goes.running (λ_ _ x=>x.1) _ rl h,ai⟩
 |c2 h=>exact .inl ⟨Goes.running (λ_ _ x=>x.1) _ r0 h,ai⟩
 |c0 h=>exact .inl ⟨Goes.running (λ_ _ x=>x.1) _ r0 h,ai⟩
 |kd _ _ h _=>exact .inl ⟨Goes.running (λ_ _ x=>x.1) _ rl h,ai⟩
 |anch hr _ h _=>exact .inl ⟨Goes.running hr _ rl h,ai⟩
 |w1 _ _ h _=>exact .inl ⟨Goes.running (λ_ _ x=>x.1) _ rl h,ai⟩
 |w2 _ _ h _=>exact .inl ⟨Goes.running (λ_ _ x=>x.1) _ rl h,ai⟩
 |wr h _=>exact .inl ⟨Goes.running (λ_ _ x=>x.1) _ rl h,ai⟩
 |w3 h _=>exact .inl ⟨Goes.running (λ_ _ x=>x.1) _ rl h,ai⟩
 |blk h _=>exact .inr ⟨rfl,rfl⟩
 |w4 h _=>exact .inl ⟨Goes.running (λ_ _ x=>x.1) _ rl h,ai⟩
 |ke h _=>exact .inl ⟨Goes.running (λ_ _ x=>x.1) _ rl h,ai⟩
 |acq h _=>exact .inl ⟨Goes.running (λ_ _ x=>x.1) _ rl h,ai⟩
 |ret h _=>exact .inl ⟨Goes.running (λ_ _ x=>x.1) _ rl h,ai⟩
theorem MS.wokenBy(h:MS P ty Wg C n B M WP K ids l tag r f d g W)(a a':Goroutine):
  ∃tag' f',MS P ty Wg C n B M WP K ids l tag' r f' d (Go.Conc.woken P a a' W g) W/\f'<=f+1/\(tag'=tag\/(tag=.blk/\tag'=.w3))/\(mayWake P a=true->a'.status=.running->tag'≠.blk):=by
 unfold Go.Conc.woken;split
 .rcases h.status with⟨hs,hne⟩|⟨_,rfl⟩
  .exact⟨tag,f,by rw[again_running _ (.inl hs)];exact h,ae,.inl rfl,λ_ _=>hne⟩
  .cases h with
   |blk hb k=>
    have h3:=hb W (zN ty Wg W);exact⟨.w3,0+1,by rw[again_blocked h3.1 h3.2.1];exact .w3 (bI hb) k,ae,.inr ⟨rfl,rfl⟩,λ_ _=>ai⟩
 .rename_i hc;exact⟨tag,f,h,ae,.inl rfl,λh1 h2=>absurd (by simp[h1,h2]) hc⟩
end
end Go.Gh
namespace Go.Gh
open Go.Conc Go.ConcN
open Go.ConcR (KK WgAt stA smA rd wr mk Payload DC0 g_of_ofEvents)
variable [qN][rf]
def Ef(Wg:Nat)(l:Loc):Prop:=ShN Wg l\/∃a:Addr,l=.cell a/\qN.old a.block
def Rl(C j:Nat)(ix:Nat->Nat)(ow:Nat->List Nat)(k:Nat)(l:Loc):Prop:=rf.el<k/\k<=j/\∃a:Addr,l=.cell a/\(a.block∈ow (k-1)\/a=⟨C,ix (k-1),none⟩)
def RdF(Wg C B:Nat)(k:Nat)(l:Loc):Prop:=rf.el<k/\∃a:Addr,l=.cell a/\a.block<B/\a.block≠Wg/\a.block≠C/\¬qN.old a.block
class wU where
 o0:Array (Nat×ByteArray)
 os0:Os
structure Gm(Wg C B:Nat)(M:Nat->Prop)(j:Nat)(ix:Nat->Nat)(ow:Nat->List Nat)(l0:List Nat)(sz:Nat):Prop where
 hW:Wg<B
 hC:C<B
 hCW:C≠Wg
 hB:B<=sz
 own:∀i,i<j->∀b∈ow i,B<=b/\b<sz
 Ar:∀b∈l0,B<=b/\b<sz
 dis:∀i i' b,i<j->i'<j->b∈ow i->b∈ow i'->i=i'
 Xf:∀i b,i<j->b∈ow i->b∉l0
 ixd:∀i i',rf.el<=i->rf.el<=i'->i<j->i'<j->ix i=ix i'->i=i'
 ixM:∀i,rf.el<=i->i<j->M (ix i)
 hel:rf.el<=j
 old:∀b,qN.old b->b<B/\b≠C
section
variable {Wg C B:Nat}{M:Nat->Prop}{j:Nat}{ix:Nat->Nat}{ow:Nat->List Nat}{l0:List Nat}{sz sz':Nat}
theorem Gm.apart(h:Gm Wg C B M j ix ow l0 sz):Apart (Ef Wg) (Rl C j ix ow) (RdF Wg C B):=by
 have hC:=h.hC;refine⟨λk k' l ⟨h1,h2,a,e,x⟩ ⟨h1',h2',a',e',x'⟩=>?_,λk k' l ⟨h1,h2,a,e,x⟩ ⟨_,a',e',y1,y2,y3,_⟩=>?_,λk l ⟨h1,h2,a,e,x⟩ hsh=>?_,λk l ⟨_,a,e,y1,y2,y3,y4⟩ hsh=>?_⟩
 .obtain rfl:a=a':=lg;rcases x with x|x<;>rcases x' with x'|x'
  .have:=h.dis (k-1) (k'-1) _ ae ae x x';omega
  .have:=h.own (k-1) ae _ x;rw[x']at this;exact aqu
  .have:=h.own (k'-1) ae _ x';rw[x]at this;exact aqu
  .rw[x]at x';have:=h.ixd (k-1) (k'-1) ae ae ae ae (by injection x');omega
 .obtain rfl:a=a':=lg;rcases x with x|x
  .have:=h.own (k-1) ae _ x;omega
  .rw[x]at y3;exact y3 rfl
 .obtain⟨a',e',y⟩|⟨a',e',y⟩:=hsh
  .obtain rfl:a=a':=lg;have:=h.hW;rcases x with x|x
   .have:=h.own (k-1) ae _ x;omega
   .rw[x]at y;exact h.hCW y
  .obtain rfl:a=a':=lg;have hy:=h.old _ y;rcases x with x|x
   .have:=h.own (k-1) ae _ x;omega
   .rw[x]at hy;exact hy.2 rfl
 .obtain⟨a',e',y⟩|⟨a',e',y⟩:=hsh
  .obtain rfl:a=a':=lg;exact y2 y
  .obtain rfl:a=a':=lg;exact y4 y
theorem Gm.alf(h:Gm Wg C B M j ix ow l0 sz)(hs:sz<=sz'){i:Nat}(hi:i<j):Gm Wg C B M j ix (upd ow i (ow i++fresh sz sz')) l0 sz':=by
 have hB:=h.hB
 have mem:∀a b,a<j->b∈upd ow i (ow i++fresh sz sz') a->(b∈ow a/\b<sz)\/(a=i/\sz<=b/\b<sz'):=by
  intro a b ha hb;by_cases e:a=i
  .subst e;rw[upd_same,ku,Bq]at hb;exact hb.elim (λx=>.inl ⟨x,(h.own a ha b x).2⟩) λx=>.inr ⟨rfl,x⟩
  .rw[upd_ne ow _ e]at hb;exact .inl ⟨hb,(h.own a ha b hb).2⟩
 refine⟨h.hW,h.hC,h.hCW,ae,λa ha b hb=>?_,λb hb=>by have:=h.Ar b hb;omega,λa a' b ha ha' hb hb'=>?_,λa b ha hb hb0=>?_,h.ixd,h.ixM,h.hel,h.old⟩
 .rcases mem a b ha hb with⟨x,y⟩|⟨_,x⟩
  .have:=h.own a ha b x;omega
  .omega
 .rcases mem a b ha hb with⟨x,y⟩|⟨x,y⟩<;>rcases mem a' b ha' hb' with⟨x',y'⟩|⟨x',y'⟩
  .exact h.dis a a' b ha ha' x x'
  .omega
  .omega
  .omega
 .rcases mem a b ha hb with⟨x,y⟩|⟨x,y⟩
  .exact h.Xf a b ha x hb0
  .have:=h.Ar b hb0;omega
theorem Gm.alg(h:Gm Wg C B M j ix ow l0 sz)(hs:sz<=sz'):Gm Wg C B M j ix ow (l0++fresh sz sz') sz':=by
 have hB:=h.hB;refine⟨h.hW,h.hC,h.hCW,ae,λa ha b hb=>by have:=h.own a ha b hb;omega,λb hb=>?_,h.dis,λa b ha hb hb0=>?_,h.ixd,h.ixM,h.hel,h.old⟩
 .rw[ku,Bq]at hb;rcases hb with hb|hb
  .have:=h.Ar b hb;omega
  .omega
 .rw[ku,Bq]at hb0;have:=h.own a ha b hb;exact hb0.elim (h.Xf a b ha hb) ae
theorem Gm.fork(h:Gm Wg C B M j ix ow l0 sz){idx:Nat}{l l0':List Nat}(hl:∀b∈l,b∈l0)(hl0:∀b,b∈l0'↔b∈l0/\b∉l)(hi:∀i,rf.el<=i->i<j->ix i≠idx)(hM:M idx):
  Gm Wg C B M (j+1) (upd ix j idx) (upd ow j l) l0' sz:=by
 have mem:∀a b,a<j+1->b∈upd ow j l a->(a<j/\b∈ow a)\/(a=j/\b∈l):=by
  intro a b ha hb;by_cases e:a=j
  .subst e;rw[upd_same]at hb;exact .inr ⟨rfl,hb⟩
  .rw[upd_ne ow _ e]at hb;exact .inl ⟨ae,hb⟩
 refine⟨h.hW,h.hC,h.hCW,h.hB,λa ha b hb=>?_,λb hb=>h.Ar b ((hl0 b).1 hb).1,λa a' b ha ha' hb hb'=>?_,λa b ha hb hb0=>?_,λa a' la la' ha ha' e=>?_,λa la ha=>?_,by have:=h.hel;omega,h.old⟩
 .rcases mem a b ha hb with⟨x,y⟩|⟨_,y⟩
  .exact h.own a x b y
  .exact h.Ar b (hl b y)
 .rcases mem a b ha hb with⟨x,y⟩|⟨x,y⟩<;>rcases mem a' b ha' hb' with⟨x',y'⟩|⟨x',y'⟩
  .exact h.dis a a' b x x' y y'
  .exact absurd (hl b y') (h.Xf a b x y)
  .exact absurd (hl b y) (h.Xf a' b x' y')
  .omega
 .have hb0:=(hl0 b).1 hb0;rcases mem a b ha hb with⟨x,y⟩|⟨x,y⟩
  .exact h.Xf a b x y hb0.1
  .exact hb0.2 y
 .by_cases e1:a=j<;>by_cases e2:a'=j
  .omega
  .subst e1;rw[upd_same,upd_ne ix _ e2]at e;exact absurd e.symm (hi a' la' ae)
  .subst e2;rw[upd_same,upd_ne ix _ e1]at e;exact absurd e (hi a la ae)
  .rw[upd_ne ix _ e1,upd_ne ix _ e2]at e;exact h.ixd a a' la la' ae ae e
 .by_cases e:a=j
  .subst e;rw[upd_same];exact hM
  .rw[upd_ne ix _ e];exact h.ixM a la ae
end
omit [qN][rf]in
theorem aa8{Sh:Loc->Prop}{Own Own' Rd:Nat->Loc->Prop}{t:Trace}{j:Nat}(h:CT Sh Own Rd t j)(h1:∀k l,1<=k->k<=j->Own k l->Own' k l)
  (h2:∀k l,1<=k->k<=j->Own' k l->Own k l\/∀i a,touchAt t i=some a->a.loc≠l):CT Sh Own' Rd t j:=
 ⟨h.quiet,λk k1 kj l hl=>(h2 k l k1 kj hl).elim (h.own k k1 kj l) λhn i a ha e=>absurd e (hn i a ha),h.rd,
  λl hs hl=>h.free l hs λk k1 kj=>⟨λho=>(hl k k1 kj).1 (h1 k l k1 kj ho),(hl k k1 kj).2⟩,λl hs hl=>h.mine l hs λk k1 kj ho=>hl k k1 kj (h1 k l k1 kj ho),h.nr,h.gs⟩
def Qd(Wg sz:Nat)(act:MemAct):Prop:=∀x,act.touch?=some x->(∀ad,x.loc=.cell ad->ad.block<sz)/\(x.kind=.atomic->ShN Wg x.loc)/\x.loc.isMemory=true
omit [qN][rf]in
theorem Bv{Wg sz:Nat}{act:MemAct}(h:act.touch?=none):Qd Wg sz act:=λx hx=>by rw[h]at hx;cases hx
omit [qN][rf]in
theorem TI{Wg sz:Nat}(a:Addr)(x:Bool)(h:a.block<sz):Qd Wg sz (MemAct.ofEvent ⟨.cell a,x,false⟩):=by
 intro z hz;rw[Go.ConcR.ofEvent_cell]at hz;simp only[MemAct.touch?,fV]at hz;subst hz;refine⟨λad e=>?_,λe=>?_,rfl⟩
 .simp only[Loc.cell.injEq]at e;subst e;exact h
 .simp at e
omit [qN][rf]in
theorem ahG{Wg sz:Nat}(a:Addr)(x y:Bool)(ha:a.block=Wg)(h:Wg<sz):Qd Wg sz (MemAct.ofEvent ⟨.cell a,x,y⟩):=by intro z hz;rw[Go.ConcR.ofEvent_cell]at hz;simp only[MemAct.touch?,fV]at hz;subst hz;refine⟨λad e=>?_,λ_=>⟨a,rfl,ha⟩,rfl⟩;simp only[Loc.cell.injEq]at e;subst e;omega
omit [qN]in
def Xg(Wg sz:Nat)(op:MemOp):Prop:=∀x,op.act.touch?=some x->(∀ad,x.loc=.cell ad->ad.block<sz)/\(rf.el<op.g->x.kind=.atomic->ShN Wg x.loc)/\(op.g≠0->x.loc.isMemory=true)
omit [qN]in
theorem Qd.g{Wg sz:Nat}{op:MemOp}(h:Qd Wg sz op.act):Xg Wg sz op:=λx hx=>⟨(h x hx).1,λ_=>(h x hx).2.1,λ_=>(h x hx).2.2⟩
omit [qN]in
theorem ack{Wg a b:Nat}(h:a<=b){op:MemOp}(hl:Xg Wg a op):Xg Wg b op:=λx hx=>⟨λad e=>aN ((hl x hx).1 ad e) h,(hl x hx).2⟩
omit [qN]in
theorem acm{t:Trace}{Wg sz:Nat}(h:∀op∈t,Xg Wg sz op){i:Nat}{a:Touch}(ha:touchAt t i=some a){ad:Addr}(e:a.loc=.cell ad):ad.block<sz:=by obtain⟨x,hx,hxa⟩:=touch_of ha;exact(h x (dX hx) a hxa).1 ad e
def aa9(Wg:Nat)(t:Trace):Prop:=∀(i:Nat)(op:MemOp)(x:Touch),t[i]?=some op->op.act.touch?=some x->x.loc.isMemory=true->op.g≠0->op.g<=rf.el->Knows t 0 i\/(Ef Wg x.loc/\x.kind=.atomic)
def aa_(t:Trace):Prop:=∀i g,t.g? i=some g->g≠0->g<=rf.el->t.counts i->∃q,t.g? q=some 0/\HappensBefore t i q
def JU(u:Trace):Prop:=∀op∈u,op.g=0\/rf.el<op.g\/op.act.touch?=none
theorem aa9.app{Wg:Nat}{t u:Trace}(h:aa9 Wg t)(hu:JU u):aa9 Wg (t++u):=by
 intro i op x hi hx hm h0 he;rcases getElem?_append_cases hi with⟨_,hi'⟩|⟨_,hiu⟩
 .exact(h i op x hi' hx hm h0 he).imp (·.app u) id
 .rcases hu op hiu with h1|h1|h1
  .exact absurd h1 h0
  .omega
  .rw[h1]at hx;cases hx
omit [qN]in
theorem aa_.app{t u:Trace}(h:aa_ t)(hu:JU u):aa_ (t++u):=by
 intro i g hg hne he hc;obtain⟨x,hx,hx'⟩:=hc;obtain⟨op,hop,hox⟩:=touch_of hx;rcases getElem?_append_cases hop with⟨hi,hop'⟩|⟨_,hopu⟩
 .obtain⟨j,hj,hb⟩:=h i g (by simpa[Trace.g?,getElem?_append_old hi]using hg) hne he ((counts_old hi).1 ⟨x,hx,hx'⟩)
  have hjl:j<t.size:=by unfold Trace.g? at hj;obtain⟨z,hz,_⟩:=bU.1 hj;exact lt_size_of_getElem? hz
  exact⟨j,by simpa[Trace.g?,getElem?_append_old hjl]using hj,hb_app u hb⟩
 .have e:op.g=g:=by simpa[Trace.g?,hop]using hg
  rcases hu op hopu with h1|h1|h1
  .omega
  .omega
  .rw[h1]at hox;cases hox
omit [qN]in
theorem Ew{i:Nat}{fn:FuncId}{pos:String}{es:Array Event}(h:i=0\/rf.el<i):JU (MemOp.ofEvents i fn pos es):=λop hop=>by obtain⟨e,_,rfl⟩:=Go.Conc.mem_ofEvents hop;exact h.imp id .inl
omit [rf]in
theorem aff{Wg:Nat}{Own Rd:Nat->Loc->Prop}{k:Nat}{fn:FuncId}{pos:String}{es:Array Event}(h:∀e∈es,Go.ConcR.Bk Wg e):∀op∈MemOp.ofEvents k fn pos es,OkW (Ef Wg) Own Rd k op:=
 λop hop=>let y:=okW_of_Bk h op hop;⟨y.1,λx hx=>(y.2 x hx).imp (λz=>⟨.inl z.1,z.2⟩) id⟩
omit [rf]in
theorem ahH{Wg:Nat}{Own Rd:Nat->Loc->Prop}{k:Nat}{fn:FuncId}{pos:String}{es:Array Event}(h:∀e∈es,(MemAct.ofEvent e).touch?=none):∀op∈MemOp.ofEvents k fn pos es,OkW (Ef Wg) Own Rd k op:=λop hop=>by obtain⟨e,he,rfl⟩:=Go.Conc.mem_ofEvents hop;exact⟨rfl,λx hx=>by simp only[h e he]at hx;cases hx⟩
omit [rf]in
theorem ajY{Wg j:Nat}{Own Rd:Nat->Loc->Prop}{fn:FuncId}{pos:String}{es:Array Event}(h:∀e∈es,Go.ConcR.Bk Wg e):∀op∈MemOp.ofEvents 0 fn pos es,Ok0 (Ef Wg) Own Rd j op:=λop hop=>by
 obtain⟨e,he,rfl⟩:=Go.Conc.mem_ofEvents hop;refine⟨rfl,λx hx=>?_⟩;rcases h e he with h1|h1|⟨a,wr,rfl,ha⟩
 .exact arb
 .exact arb
 .simp only[Go.ConcR.ofEvent_cell,MemAct.touch?,fV]at hx;subst hx;exact .inl ⟨.inl ⟨a,rfl,ha⟩,ai⟩
omit [rf]in
theorem U7{Wg:Nat}{b:Addr}(h1:b.block≠Wg)(h2:¬qN.old b.block):¬Ef Wg (.cell b):=λh=>
 h.elim (λ⟨a,e,y⟩=>by obtain rfl:=dP e;exact h1 y) (λ⟨a,e,y⟩=>by obtain rfl:=dP e;exact h2 y)
def U8(Wg:Nat)(t:Trace):Prop:=∀i,rf.ts<=i->t.act? i≠some (.mark (.release (stA Wg)))
omit [qN]in
theorem U8.app{Wg:Nat}{t u:Trace}(h:U8 Wg t)(hu:∀op∈u,op.act≠.mark (.release (stA Wg))):U8 Wg (t++u):=λi hi e=>by
 obtain⟨op,hop,hoe⟩:=bU.1 e;rcases getElem?_append_cases hop with⟨_,hop'⟩|⟨_,hopu⟩
 .exact h i hi (by unfold Trace.act?;rw[hop'];exact aP some hoe)
 .exact hu op hopu hoe
omit [qN]in
def I_(Wg j:Nat)(t:Trace):Prop:=
 ∃q,t.act? q=some (.mark (.acquire (stA Wg)))/\t.g? q=some 0/\t.heard q/\∀i,rf.el<=i->i<j->∃r,RelBy (stA Wg) t (i+1) r/\r<q/\rf.ts<=r
omit [qN]in
theorem I_.app{Wg j:Nat}{t u:Trace}(h:I_ Wg j t)(hu:∀i r,rf.el<=i->i<j->RelBy (stA Wg) t (i+1) r->RelBy (stA Wg) (t++u) (i+1) r):I_ Wg j (t++u):=by obtain⟨q,h1,h2,h3,h4⟩:=h;have hq:=lt_of_act? h1;exact⟨q,by rw[act?_old hq];exact h1,by rw[g?_old hq];exact h2,(heard_old hq).2 h3,λi hl hi=>let⟨r,hr,hrq⟩:=h4 i hl hi;⟨r,hu i r hl hi hr,hrq⟩⟩
end Go.Gh
namespace Go.Gh
open Go.Conc Go.ConcN
open Go.ConcR (KK WgAt stA smA rd wr mk Payload DC0 g_of_ofEvents Bk)
variable [Payload][qN][rf][wU]
section
variable (P:Program)(ty:TypeId)(Wg C n B:Nat)(M:Nat->Prop)(WP:Nat->Value->World->Prop)
structure Cm(j:Nat)(gs:Array Goroutine)(W:World)(t:Trace)(D:Nat->WD)(ix:Nat->Nat)(ow:Nat->List Nat)(l0:List Nat)(d0:Nat):Prop where
 size:gs.size=j+1
 wk:∀i,rf.el<=i->i<j->∃g,gs[i+1]?=some g/\WS P ty Wg C n B WP (ix i) (ow i) (D i).stage (D i).fuel (D i).deaf g W
 eld:∀i,i<rf.el->∃g,gs[i+1]?=some g/\(D i).stage=1/\QuitsD P (D i).fuel (D i).deaf g
 past:aa9 Wg t
 over:aa_ t
 ct:CT (Ef Wg) (Rl C j ix ow) (RdF Wg C B) t j
 norel:U8 Wg t
 hts:rf.ts<=t.size
 low:∀op∈t,Xg Wg W.heap.size op
 deaf0:Deaf t 0=d0
 deafW:∀i,i<j->Deaf t (i+1)=(D i).deaf
 rel:∀i,rf.el<=i->i<j->(D i).stage<=6->∃r,RelBy (stA Wg) t (i+1) r/\rf.ts<=r
 pay:PayAt C n W
 gm:Gm Wg C B M j ix ow l0 W.heap.size
 out:W.output=wU.o0
 os:W.os=wU.os0
end
section
variable {P:Program}{ty:TypeId}{Wg C n B:Nat}{M:Nat->Prop}{WP:Nat->Value->World->Prop}{j:Nat}{gs:Array Goroutine}{W W':World}{t:Trace}{D:Nat->WD}{ix:Nat->Nat}{ow:Nat->List Nat}{l0:List Nat}{d0:Nat}
omit [Payload][qN][rf][wU]in
theorem Xh{P:Program}{main:Bool}{g g':Goroutine}{es:Array Event}(h:stepG P main g W=.go g' W' es):W'.output=W.output:=(Et P W.output (w:=W) h).2
omit [Payload][qN][wU]in
theorem OO{u:Trace}{a b:Nat}(h:∀op∈t,Xg Wg a op)(hab:a<=b)(hu:∀op∈u,Qd Wg b op.act):∀op∈t++u,Xg Wg b op:=λop hop=>(mi.1 hop).elim (λx=>ack hab (h op x)) (λx=>(hu op x).g)
theorem Cm.at(hWP:∀idx v w w₁,Ro Wg C n B (λ_=>False) w w₁->WP idx v w->WP idx v w₁)(h:Cm P ty Wg C n B M WP j gs W t D ix ow l0 d0)(d:Nat):Cm P ty Wg C n B M WP j gs (W.at d) t D ix ow l0 d0:=
 ⟨h.size,λi hEl hi=>let⟨g,hg,hs⟩:=h.wk i hEl hi
  ⟨g,hg,hs.rely (hWP _) (lo:=[]) (Cm:=λ_=>False) (LY.at W d) h.gm.hB ai (λb hb=>⟨ai,(h.gm.own i hi b hb).2,by have:=(h.gm.own i hi b hb).1;have:=h.gm.hC;omega,by have:=(h.gm.own i hi b hb).1;have:=h.gm.hW;omega⟩) id⟩,h.eld,h.past,h.over,h.ct,h.norel,h.hts,h.low,h.deaf0,h.deafW,h.rel,h.pay,h.gm,h.out,h.os⟩
omit [Payload][wU]in
theorem acn(hl:∀op∈t,Xg Wg W.heap.size op)(hct:CT (Ef Wg) (Rl C j ix ow) (RdF Wg C B) t j)(i:Nat):
  CT (Ef Wg) (Rl C j ix (upd ow i (ow i++fresh W.heap.size W'.heap.size))) (RdF Wg C B) t j:=by
 refine aa8 hct (λk l _ kj ⟨k1,_,a,e,x⟩=>⟨k1,kj,a,e,x.imp (λy=>?_) id⟩) (λk l _ kj ⟨k1,_,a,e,x⟩=>?_)
 .by_cases ek:k-1=i
  .rw[ek,upd_same];rw[ek]at y;exact anP _ y
  .rw[upd_ne ow _ ek];exact y
 .rcases x with x|x
  .by_cases ek:k-1=i
   .rw[ek,upd_same,ku,Bq]at x;rcases x with x|x
    .exact .inl ⟨k1,kj,a,e,.inl (by rw[ek];exact x)⟩
    .exact .inr λi' b hb e'=>by have:=acm hl hb (e'.trans e);omega
   .rw[upd_ne ow _ ek]at x;exact .inl ⟨k1,kj,a,e,.inl x⟩
  .exact .inl ⟨k1,kj,a,e,.inr x⟩
theorem Cm.stepW(hWP:∀idx v w w₁,Ro Wg C n B (λ_=>False) w w₁->WP idx v w->WP idx v w₁)(h:Cm P ty Wg C n B M WP j gs W t D ix ow l0 d0){i:Nat}(hEl:rf.el<=i)(hi:i<j){g g':Goroutine}{fn:FuncId}{pos:String}{es:Array Event}{s' m' dd':Nat}
  (hc:LY ty Wg C n (ow i) (· =ix i) W W') (hs':WS P ty Wg C n B WP (ix i) (ow i++fresh W.heap.size W'.heap.size) s' m' dd' g' W')
  (hok:∀op∈MemOp.ofEvents (i+1) fn pos es,OkW (Ef Wg) (Rl C j ix (upd ow i (ow i++fresh W.heap.size W'.heap.size))) (RdF Wg C B) (i+1) op) (hlow:∀e∈es,Qd Wg W'.heap.size (MemAct.ofEvent e))
  (hnr:∀e∈es,e.loc≠.mark (.release (stA Wg))) (hdeaf:deafBehind (D i).deaf es=dd')
  (hrel:s'<=6->∃r,RelBy (stA Wg) (t++MemOp.ofEvents (i+1) fn pos es) (i+1) r/\rf.ts<=r) (ho:W'.output=W.output):
  Cm P ty Wg C n B M WP j ((gs.map (woken P g g' W')).setIfInBounds (i+1) g') W' (t++MemOp.ofEvents (i+1) fn pos es) (upd D i ⟨s',m',dd'⟩) ix (upd ow i (ow i++fresh W.heap.size W'.heap.size)) l0 d0:=by
 have gm':=h.gm.alf (sz':=W'.heap.size) hc.size hi
 refine⟨jr,λi' hl' hi'=>?_,λi' hl'=>?_,h.past.app (Ew (.inr ae)),h.over.app (Ew (.inr ae)),(acn h.low h.ct i).appW gm'.apart ae ae hok,h.norel.app (norel_of hnr),pG,
  OO h.low hc.size (λop hop=>by obtain⟨e,he,rfl⟩:=Go.Conc.mem_ofEvents hop;exact hlow e he),apM,λi' hi'=>?_,λi' hl' hi' hst=>?_,hc.pay h.pay,gm',ho.trans h.out,hc.os.trans h.os⟩
 rotate_left
 .obtain⟨x,hx,hx1,hx2⟩:=h.eld i' hl';refine⟨x,aoE,?_⟩;rw[upd_ne D _ ae];exact⟨hx1,hx2⟩
 rotate_left 2
 .by_cases e:i'=i
  .subst e;exact⟨g',get_map_set_same _ _ _ pg,by rw[upd_same,upd_same];exact hs'⟩
  .obtain⟨x,hx,hsx⟩:=h.wk i' hl' hi';refine⟨x,aoF,?_⟩;rw[upd_ne D _ e,upd_ne ow _ e];refine hsx.rely (hWP _) hc h.gm.hB (λb hb=>(h.gm.own i hi b hb).1) (λb hb=>⟨λhb'=>e (h.gm.dis i' i b hi' hi hb hb'),(h.gm.own i' hi' b hb).2,?_,?_⟩) (λe'=>e (h.gm.ixd i' i hl' hEl hi' hi e'))
   .have:=(h.gm.own i' hi' b hb).1;have:=h.gm.hC;omega
   .have:=(h.gm.own i' hi' b hb).1;have:=h.gm.hW;omega
 .by_cases e:i'=i
  .subst e;rw[Deaf_own,h.deafW i' hi',upd_same];exact hdeaf
  .exact arH
 .by_cases e:i'=i
  .subst e;rw[upd_same]at hst;exact hrel hst
  .rw[upd_ne D _ e]at hst;exact arn
theorem Cm.step0(hWP:∀idx v w w₁,Ro Wg C n B (λ_=>False) w w₁->WP idx v w->WP idx v w₁)(h:Cm P ty Wg C n B M WP j gs W t D ix ow l0 d0){a a':Goroutine}{fn:FuncId}{pos:String}{es:Array Event}
  (hc:LY ty Wg C n l0 (λi=>¬M i) W W')
  (hok:∀op∈MemOp.ofEvents 0 fn pos es,Ok0 (Ef Wg) (Rl C j ix ow) (RdF Wg C B) j op) (hlow:∀e∈es,Qd Wg W'.heap.size (MemAct.ofEvent e)) (hnr:∀e∈es,e.loc≠.mark (.release (stA Wg))) (ho:W'.output=W.output):
  Cm P ty Wg C n B M WP j ((gs.map (woken P a a' W')).setIfInBounds 0 a') W' (t++MemOp.ofEvents 0 fn pos es) D ix ow (l0++fresh W.heap.size W'.heap.size) (deafBehind d0 es):=by
 refine⟨jr,λi hEl hi=>?_,λi hi=>?_,h.past.app (Ew (.inl rfl)),h.over.app (Ew (.inl rfl)),h.ct.app0 h.gm.apart hok,h.norel.app (norel_of hnr),pG,OO h.low hc.size (λop hop=>by obtain⟨e,he,rfl⟩:=Go.Conc.mem_ofEvents hop;exact hlow e he),
  by rw[Deaf_own,h.deaf0],λi hi=>by rw[Deaf_other t ae _ g_of_ofEvents,h.deafW i hi],λi hEl hi hst=>?_,hc.pay h.pay,h.gm.alg hc.size,ho.trans h.out,hc.os.trans h.os⟩
 .obtain⟨x,hx,hsx⟩:=h.wk i hEl hi;refine⟨x,aoF,hsx.rely (hWP _) hc h.gm.hB (λb hb=>(h.gm.Ar b hb).1) (λb hb=>⟨h.gm.Xf i b hi hb,(h.gm.own i hi b hb).2,?_,?_⟩) (λhn=>hn (h.gm.ixM i hEl hi))⟩
  .have:=(h.gm.own i hi b hb).1;have:=h.gm.hC;omega
  .have:=(h.gm.own i hi b hb).1;have:=h.gm.hW;omega
 .obtain⟨x,hx,hx1,hx2⟩:=h.eld i hi;exact⟨x,aoE,hx1,hx2⟩
 .obtain⟨r,hr,hrs⟩:=h.rel i hEl hi hst;exact⟨r,hr.appOther g_of_ofEvents ae,hrs⟩
theorem Cm.spawn(h:Cm P ty Wg C n B M WP j gs W t D ix ow l0 0){a' child:Goroutine}{x y:MemOp}{m idx:Nat}{l l0':List Nat}(hx:x.g=0/\x.act=.go (j+1))(hy:y.g=j+1/\y.act=.start)
  (hl:∀b∈l,b∈l0) (hl0:∀b,b∈l0'↔b∈l0/\b∉l) (hid:∀i,rf.el<=i->i<j->ix i≠idx) (hM:M idx) (hc:Wk P ty Wg C n B WP idx m child (gw W l)):
  Cm P ty Wg C n B M WP (j+1) ((gs.setIfInBounds 0 a').push child) W (t++#[x,y]) (upd D j ⟨7,m+24,0⟩) (upd ix j idx) (upd ow j l) l0' 0:=by
 have gm':=h.gm.fork hl hl0 hid hM;have hm:∀op∈#[x,y],op=x\/op=y:=by intro op hop;simpa using hop
 have hst:∀op∈#[x,y],op.act≠.mark .disable/\op.act≠.mark .enable:=by
  intro op hop;rcases hm op hop with rfl|rfl
  .rw[hx.2];exact⟨ai,ai⟩
  .rw[hy.2];exact⟨ai,ai⟩
 have hct:CT (Ef Wg) (Rl C (j+1) (upd ix j idx) (upd ow j l)) (RdF Wg C B) t j:=by
  refine aa8 h.ct (λk l' _ kj ⟨k1,_,a,e,z⟩=>⟨k1,ae,a,e,?_⟩) (λk l' _ kj ⟨k1,_,a,e,z⟩=>.inl ⟨k1,kj,a,e,?_⟩)
  .rw[upd_ne ow _ ae,upd_ne ix _ ae];exact z
  .rw[upd_ne ow _ ae,upd_ne ix _ ae]at z;exact z
 have hel:=h.gm.hel;have hne:JU #[x,y]:=λop hop=>(hm op hop).elim (λe=>.inl (by rw[e];exact hx.1)) (λe=>.inr (.inl (by rw[e,hy.1];omega)))
 refine⟨jr,λi hEl hi=>?_,λi hi=>?_,h.past.app hne,h.over.app hne,hct.fork gm'.apart hx hy h.deaf0,h.norel.app λop hop=>?_,pG,OO h.low (ak _) (λop hop=>?_),by rw[Deaf_still t 0 _ hst,h.deaf0],λi hi=>?_,λi hEl hi hs=>?_,h.pay,gm',h.out,h.os⟩
 .rcases aT i j with hlt|hge
  .obtain⟨g,hg,hsg⟩:=h.wk i hEl hlt;refine⟨g,?_,by rw[upd_ne D _ ae,upd_ne ix _ ae,upd_ne ow _ ae];exact hsg⟩;rw[an4 aod,<-kN,jh ae];exact hg
  .obtain rfl:i=j:=ae;refine⟨child,?_,by rw[upd_same,upd_same,upd_same];exact .comp hc⟩;rw[show i+1=(gs.setIfInBounds 0 a').size by simp[h.size],Array.getElem?_push_size]
 .obtain⟨g,hg,hg1,hg2⟩:=h.eld i hi;refine⟨g,?_,by rw[upd_ne D _ ae];exact⟨hg1,hg2⟩⟩;rw[an4 aod,<-kN,jh ae];exact hg
 .rcases hm op hop with rfl|rfl
  .rw[hx.2];simp
  .rw[hy.2];simp
 .rcases hm op hop with rfl|rfl
  .rw[hx.2];exact Bv rfl
  .rw[hy.2];exact Bv rfl
 .rw[Deaf_still t _ _ hst];rcases aT i j with hlt|hge
  .rw[h.deafW i hlt,upd_ne D _ ae]
  .obtain rfl:i=j:=ae;rw[upd_same];exact Deaf_absent λa op ha e=>by have:=h.ct.gs a op ha;omega
 .rcases aT i j with hlt|hge
  .rw[upd_ne D _ ae]at hs;obtain⟨r,hr,hrs⟩:=h.rel i hEl hlt hs;refine⟨r,hr.appNot (λop hop=>?_),hrs⟩;rcases hm op hop with rfl|rfl
   .rw[hx.1];omega
   .rw[hy.1];omega
  .obtain rfl:i=j:=ae;rw[upd_same]at hs;simp at hs
end
end Go.Gh
namespace Go.Gh
open Go.Conc Go.ConcN
open Go.ConcR (KK WgAt stA smA rd wr mk Payload DC0 g_of_ofEvents Bk bk_of_mute ofEvent_loc_mark ofEvent_cell)
variable [Payload][qN][rf][wU]
omit [Payload][qN][rf][wU]in
theorem BL(a:Nat):fresh a a=[]:=by simp[fresh]
section
variable (P:Program)(ty:TypeId)(Wg C n B:Nat)(M:Nat->Prop)(WP:Nat->Value->World->Prop)(K:List Nat->Goroutine->World->Prop)(N:Nat)
def Iv(μ:Nat×Nat)(m:Machine)(t:Trace):Prop:=
 ∃(gs:Array Goroutine)(W:World)(sl:Option (Nat×Nat))(j:Nat)(D:Nat->WD)(ix:Nat->Nat)(ow:Nat->List Nat)(tag:CTag)(r f0 d0:Nat)(a:Goroutine)(st sm:Int)(l0 ids:List Nat),
  m=crowd gs W sl/\gs[0]?=some a/\MS P ty Wg C n B M WP K ids l0 tag r f0 d0 a W/\Cm P ty Wg C n B M WP j gs W t D ix ow l0 d0/\WgAt ty Wg W st sm/\ConcN.Mode j D tag st sm/\
  (tag=.ret->I_ Wg j t)/\(∀i,rf.el<=i->i<j->ix i∈ids)/\(∀x∈ids,∃i,rf.el<=i/\i<j/\ix i=x)/\j+r=N/\μ=(phi N (Vc j D) tag+Ssum j D,f0+2*Fsum j D)
structure Bears:Prop where
 wp:∀idx v w w₁,Ro Wg C n B (λ_=>False) w w₁->WP idx v w->WP idx v w₁
 k:∀ids g w w₁,Ro Wg C n B (λi=>¬M i) w w₁->K ids g w->K ids g w₁
end
section
variable {P:Program}{ty:TypeId}{Wg C n B:Nat}{M:Nat->Prop}{WP:Nat->Value->World->Prop}{K:List Nat->Goroutine->World->Prop}{N:Nat}
 {gs:Array Goroutine} {W W':World} {sl:Option (Nat×Nat)} {j:Nat} {D:Nat->WD} {ix:Nat->Nat} {ow:Nat->List Nat} {tag:CTag} {r f0 d0:Nat} {a:Goroutine} {t:Trace} {st sm:Int} {l0 ids:List Nat}
theorem workerGo(hb:Bears Wg C n B M WP K)(ha:gs[0]?=some a)(hms:MS P ty Wg C n B M WP K ids l0 tag r f0 d0 a W)(hcm:Cm P ty Wg C n B M WP j gs W t D ix ow l0 d0)
  (hi1:∀i,rf.el<=i->i<j->ix i∈ids) (hi2:∀x∈ids,∃i,rf.el<=i/\i<j/\ix i=x) (hN:j+r=N)
  {i:Nat} (hEl:rf.el<=i) (hi:i<j) {g g':Goroutine} {es:Array Event} {s' m' dd':Nat} {st' sm':Int} (hg:gs[i+1]?=some g) (hgo:stepG P false g W=.go g' W' es)
  (hc:LY ty Wg C n (ow i) (· =ix i) W W') (hs':WS P ty Wg C n B WP (ix i) (ow i++fresh W.heap.size W'.heap.size) s' m' dd' g' W')
  (hok:∀op∈MemOp.ofEvents (i+1) g.frame.fn g.frame.place es,OkW (Ef Wg) (Rl C j ix (upd ow i (ow i++fresh W.heap.size W'.heap.size))) (RdF Wg C B) (i+1) op) (hlow:∀e∈es,Qd Wg W'.heap.size (MemAct.ofEvent e))
  (hnr:∀e∈es,e.loc≠.mark (.release (stA Wg))) (hdeaf:deafBehind (D i).deaf es=dd')
  (hrel:s'<=6->∃r,RelBy (stA Wg) (t++MemOp.ofEvents (i+1) g.frame.fn g.frame.place es) (i+1) r/\rf.ts<=r) (hwg:WgAt ty Wg W' st' sm')
  (hmode:∀tag',(tag'=tag\/(tag=.blk/\tag'=.w3))->(mayWake P g=true->g'.status=.running->tag'≠.blk)->ConcN.Mode j (upd D i ⟨s',m',dd'⟩) tag' st' sm')
  (hacq:tag=.ret->I_ Wg j (t++MemOp.ofEvents (i+1) g.frame.fn g.frame.place es))
  (hlt:(s'<(D i).stage/\cnt ⟨s',m',dd'⟩<=cnt (D i))\/(s'=(D i).stage/\m'+1<=(D i).fuel)):
  ∃m₁ ops μ',runT P (crowd gs W sl) (i+1)=(.next m₁,ops)/\Lt2 μ' (phi N (Vc j D) tag+Ssum j D,f0+2*Fsum j D)/\Iv P ty Wg C n B M WP K N μ' m₁ (t++ops):=by
 have amq:=hms.rely hb.k hc hcm.gm.hB (λb hb=>(hcm.gm.own i hi b hb).1) (λb hb0=>⟨λhbi=>hcm.gm.Xf i b hi hbi hb0,(hcm.gm.Ar b hb0).2,by have:=(hcm.gm.Ar b hb0).1;have:=hcm.gm.hC;omega,by have:=(hcm.gm.Ar b hb0).1;have:=hcm.gm.hW;omega⟩) (λx hx=>by subst hx;exact hcm.gm.ixM i hEl hi);obtain⟨tag',f',Gq,hf',htag,hwk⟩:=amq.wokenBy g g';have hrun:=runT_crowd_go (P:=P) (sl:=sl) (i:=i+1) hg (by simpa using hgo);have e1:=sumTo_upd D (⟨s',m',dd'⟩:WD) cnt hi;have e2:=sumTo_upd D (⟨s',m',dd'⟩:WD) WD.stage hi;have e3:=sumTo_upd D (⟨s',m',dd'⟩:WD) WD.fuel hi
 refine⟨_,_,(phi N (Vc j (upd D i ⟨s',m',dd'⟩)) tag'+Ssum j (upd D i ⟨s',m',dd'⟩),f'+2*Fsum j (upd D i ⟨s',m',dd'⟩)),hrun,?_,
  _,W',sl,j,upd D i ⟨s',m',dd'⟩,ix,_,tag',r,f',d0,woken P g g' W' a,st',sm',l0,ids,rfl,apB,Gq,hcm.stepW hb.wp hEl hi hc hs' hok hlow hnr hdeaf hrel (Xh hgo),hwg,hmode tag' htag hwk,?_,hi1,hi2,hN,rfl⟩
 .rw[phi_retag N _ htag];simp only[Vc,Ssum,Fsum]at*;rcases hlt with⟨h1,h2⟩|⟨h1,h2⟩
  .refine Prod.Lex.left _ _ ?_;have:=phi_mono N (v':=sumTo j λa=>cnt (upd D i ⟨s',m',dd'⟩ a)) (v:=sumTo j λa=>cnt (D a)) ae tag;omega
  .have ec:cnt (⟨s',m',dd'⟩:WD)=cnt (D i):=by simp only[cnt,h1]
   have ev:(sumTo j λa=>cnt (upd D i ⟨s',m',dd'⟩ a))=sumTo j λa=>cnt (D a):=ae
   have es':(sumTo j λa=>(upd D i ⟨s',m',dd'⟩ a).stage)=sumTo j λa=>(D a).stage:=ae
   rw[ev,es'];refine Prod.Lex.right _ ?_;omega
 .intro e;rcases htag with rfl|⟨_,rfl⟩
  .exact hacq e
  .cases e
omit [Payload][qN][rf][wU]in
theorem afg{es:Array Event}(h:∀e∈es,Bk Wg e){sz:Nat}(hW:Wg<sz):∀e∈es,Qd Wg sz (MemAct.ofEvent e):=by
 intro e he;rcases h e he with h1|h1|⟨a,wr,rfl,ha⟩
 .exact Bv apu
 .exact Bv apu
 .exact ahG _ _ _ ha hW
theorem aba(hb:Bears Wg C n B M WP K)(OH:N<2147483648)(ha:gs[0]?=some a)(hms:MS P ty Wg C n B M WP K ids l0 tag r f0 d0 a W)(hcm:Cm P ty Wg C n B M WP j gs W t D ix ow l0 d0)
  (hwg:WgAt ty Wg W st sm) (hmode:ConcN.Mode j D tag st sm) (hacq:tag=.ret->I_ Wg j t) (hi1:∀i,rf.el<=i->i<j->ix i∈ids) (hi2:∀x∈ids,∃i,rf.el<=i/\i<j/\ix i=x) (hN:j+r=N) (afh:j+pend tag<=N)
  {i:Nat} (hEl:rf.el<=i) (hi:i<j) {g:Goroutine} (hg:gs[i+1]?=some g) (hrun:g.status=.running)
  {v:Value} {s m dd:Nat} (hs:WSit P ty Wg C n VR VR 0 (ix i+1) v s m dd g W) (h23:s=7->m<=23) (hwp:WP (ix i) v (gw W (ow i))) (hhas:s<=6->Has C (ix i) v W) (hst:(D i).stage=s) (hfu:m<=(D i).fuel) (hde:(D i).deaf=dd):
  ∃m₁ ops μ',runT P (crowd gs W sl) (i+1)=(.next m₁,ops)/\Lt2 μ' (phi N (Vc j D) tag+Ssum j D,f0+2*Fsum j D)/\Iv P ty Wg C n B M WP K N μ' m₁ (t++ops):=by
 have hVj:=Vc_le j D;have hdk:Deaf t (i+1)=dd:=by rw[hcm.deafW i hi,hde]
 have hWs:Wg<W.heap.size:=aN hcm.gm.hW hcm.gm.hB
 have lib:∀{W':World}{s' m' dd':Nat}{g':Goroutine},Aside Wg W W'->WgLive ty Wg W'->WSit P ty Wg C n VR VR 0 (ix i+1) v s' m' dd' g' W'->(s'=7->m'<=23)->(s'<=6->Has C (ix i) v W)->WS P ty Wg C n B WP (ix i) (ow i++fresh W.heap.size W'.heap.size) s' m' dd' g' W':=by intro W' s' m' dd' g' hA hl hs' afi hh;have hc:LY ty Wg C n [] (λ_=>False) W W':=LY.of_wg hA hl hcm.gm.hCW;have hro:=hc.ro (B:=B) (l:=ow i) (Cl:=λ_=>False) hcm.gm.hB ai (λb hb'=>⟨ai,(hcm.gm.own i hi b hb').2,ap9,ap8⟩) (λ_=>False.elim);rw[hA.size,BL,dC];exact .lib hs' afi (hb.wp _ _ _ _ hro hwp) (λh=>(hc.cells _ id).trans (hh h))
 have bookG:∀{g':Goroutine}{W':World}{es:Array Event}{s' m' dd':Nat}{st' sm':Int},stepG P false g W=.go g' W' es->Aside Wg W W'->WgAt ty Wg W' st' sm'->(∀e∈es,Bk Wg e)->
   (∀jx e,es[jx]?=some e->(MemAct.ofEvent e).touch?=none\/0<deafBehind dd (es.extract 0 jx))->WSit P ty Wg C n VR VR 0 (ix i+1) v s' m' dd' g' W'->(s'=7->m'<=23)->deafBehind dd es=dd'->s<=6->
   (∀tag',(tag'=tag\/(tag=.blk/\tag'=.w3))->(mayWake P g=true->g'.status=.running->tag'≠.blk)->ConcN.Mode j (upd D i ⟨s',m',dd'⟩) tag' st' sm')->(tag=.ret->I_ Wg j (t++MemOp.ofEvents (i+1) g.frame.fn g.frame.place es))->((s'<s/\cnt ⟨s',m',dd'⟩<=cnt (D i))\/(s'=s/\m'+1<=(D i).fuel))->
   ∃m₁ ops μ',runT P (crowd gs W sl) (i+1)=(.next m₁,ops)/\Lt2 μ' (phi N (Vc j D) tag+Ssum j D,f0+2*Fsum j D)/\Iv P ty Wg C n B M WP K N μ' m₁ (t++ops):=by
  intro g' W' es s' m' dd' st' sm' hgo hAs hwg' hbk hd hs' afi hdd h6 hmode' hacq' hlt
  exact workerGo hb ha hms hcm hi1 hi2 hN hEl hi hg hgo (LY.of_wg hAs ⟨_,_,hwg'⟩ hcm.gm.hCW) (lib hAs ⟨_,_,hwg'⟩ hs' afi (λ_=>hhas ae)) (aff hbk) (afg hbk (by rw[hAs.size];exact hWs)) (norel_of_Bk hbk) (by rw[hde];exact hdd)
   (λ_=>let⟨r,hr,hrs⟩:=hcm.rel i hEl hi ae;⟨r,hr.book hdk _ _ hbk hd,hrs⟩) hwg' hmode' hacq' (by rw[hst];exact hlt)
 have book:∀{g':Goroutine}{W':World}{es:Array Event}{s' m' dd':Nat}{st' sm':Int},stepG P false g W=.go g' W' es->Aside Wg W W'->WgAt ty Wg W' st' sm'->(∀e∈es,Bk Wg e)->
   (∀jx e,es[jx]?=some e->(MemAct.ofEvent e).touch?=none\/0<deafBehind dd (es.extract 0 jx))->WSit P ty Wg C n VR VR 0 (ix i+1) v s' m' dd' g' W'->(s'=7->m'<=23)->deafBehind dd es=dd'->s<=6->
   ConcN.Mode j (upd D i ⟨s',m',dd'⟩) tag st' sm'->(tag=.ret->I_ Wg j (t++MemOp.ofEvents (i+1) g.frame.fn g.frame.place es))->((s'<s/\cnt ⟨s',m',dd'⟩<=cnt (D i))\/(s'=s/\m'+1<=(D i).fuel))->
   ∃m₁ ops μ',runT P (crowd gs W sl) (i+1)=(.next m₁,ops)/\Lt2 μ' (phi N (Vc j D) tag+Ssum j D,f0+2*Fsum j D)/\Iv P ty Wg C n B M WP K N μ' m₁ (t++ops):=
  λhgo hAs hwg' hbk hd hs' afi hdd h6 hmode' hacq' hlt=>bookG hgo hAs hwg' hbk hd hs' afi hdd h6 (λ_ ht _=>hmode'.retag ht) hacq' hlt
 have idle:∀{g':Goroutine}{m':Nat},stepG P false g W=.go g' W #[]->WSit P ty Wg C n VR VR 0 (ix i+1) v s m' dd g' W->m'+1=m->s<=6->s≠1->
   ∃m₁ ops μ',runT P (crowd gs W sl) (i+1)=(.next m₁,ops)/\Lt2 μ' (phi N (Vc j D) tag+Ssum j D,f0+2*Fsum j D)/\Iv P ty Wg C n B M WP K N μ' m₁ (t++ops):=by
  intro g' m' hgo hs' hm h6 h1;exact book hgo (.refl Wg W) hwg ai ai hs' ae rfl h6 (by have:=hmode.same (i:=i) m' dd;rwa[hst]at this) (λe=>absurd e (hmode.not_ret hi ae)) (.inr ⟨rfl,ae⟩)
 have nr:s≠1->tag≠.ret:=λh=>hmode.not_ret hi ae
 cases hs with
 |r0 h=>
  rcases Goes.cases h with hstop|⟨m',rfl,hstep⟩
  .obtain⟨_,hh,g',hgo,m₂,hk⟩:=hstop W (RW.refl W)
   exact workerGo hb ha hms hcm hi1 hi2 hN hEl hi hg hgo (.refl W) (lib (.refl Wg W) ⟨_,_,hwg⟩ (.k1 hk) ae (λ_=>by simpa using hh)) (ahH (by intro e he;simp at he;subst he;rfl)) (by intro e he;simp at he;subst he;exact Bv rfl) (by intro e he;simp at he;subst he;simp[mk]) (by rw[hde];rfl)
    (λ_=>⟨t.size,RelBy.new hdk _ _,hcm.hts⟩) hwg (λ_ ht _=>(hmode.counted hi ae (.inl rfl) _ _).retag ht) (λe=>absurd e (nr ae)) (.inl ⟨ae,aog⟩)
  .obtain⟨g',W',es,hgo,⟨hac,hev⟩,hg'⟩:=hstep W (RW.refl W);simp only[f_]at hac;have hfr:fresh W.heap.size W'.heap.size=[]:=by rw[hac.size,BL]
   have hc:LY ty Wg C n (ow i) (· =ix i) W W':=⟨dS hac.size.symm,hac.tape,hac.os,λb _ _ hbC _=>hac.block b hbC,λx hx=>hac.cells x hx,hac.pay,λ⟨a,b,x⟩=>⟨a,b,x.of_block (hac.block Wg (dh hcm.gm.hCW))⟩⟩;have hc0:LY ty Wg C n [] (· =ix i) W W':=⟨dS hac.size.symm,hac.tape,hac.os,λb _ _ hbC _=>hac.block b hbC,λx hx=>hac.cells x hx,hac.pay,λ⟨a,b,x⟩=>⟨a,b,x.of_block (hac.block Wg (dh hcm.gm.hCW))⟩⟩;have hro:=hc0.ro (B:=B) (l:=ow i) (Cl:=λ_=>False) hcm.gm.hB ai (λb hb'=>⟨ai,(hcm.gm.own i hi b hb').2,ap9,ap8⟩) (λ_=>False.elim)
   have hlast:∀e∈es,∀x,(MemAct.ofEvent e).touch?=some x->ShN Wg x.loc/\x.kind≠.plain/\x.kind≠.said:=by
    intro e he x hx;rcases((hev e he).1 0 "").2 x hx with h1|h1|h1
    .exact h1
    .exact h1.elim
    .exact h1.1.elim
   refine workerGo hb ha hms hcm hi1 hi2 hN hEl hi hg hgo hc (by rw[hfr,dC];exact .lib (.r0 hg') (λ_=>by have:=h23 rfl;omega) (hb.wp _ _ _ _ hro hwp) (λh=>ae)) (λop hop=>?_) (λe he x hx=>⟨λad ead=>?_,λ_=>(hlast e he x hx).1,by obtain⟨⟨a',e',_⟩,_⟩:=hlast e he x hx;rw[e'];rfl⟩) (λe he=>(hev e he).2.2.2)
    (by rw[hde];exact deafBehind_idle (λe he=>⟨(hev e he).2.1,(hev e he).2.2.1⟩) 0) (λh=>ae) (hwg.of_block (hac.block Wg (dh hcm.gm.hCW)))
    (λ_ ht _=>ConcN.Mode.retag (by have:=hmode.same (i:=i) m' 0;rwa[hst]at this) ht) (λe=>absurd e (nr ae)) (.inr ⟨hst.symm,ae⟩)
   .obtain⟨e,he,rfl⟩:=Go.Conc.mem_ofEvents hop;exact⟨rfl,λx hx=>.inl ⟨.inl (hlast e he x hx).1,(hlast e he x hx).2⟩⟩
   .obtain⟨⟨a',e',hbW⟩,_⟩:=hlast e he x hx;rw[ead]at e';obtain rfl:=dP e';rw[hac.size,hbW];exact hWs
 |k1 h=>
  rcases Goes.cases h with hstop|⟨m',rfl,hstep⟩
  .obtain⟨_,g',hgo,m₂,hk⟩:=hstop W (RW.refl W)
   exact book hgo (.refl Wg W) hwg (by intro e he;simp at he;subst he;exact .inl rfl) (by intro jx e he;exact .inl (by have:=dX he;simp at this;subst this;rfl)) (.d1 hk) ae rfl ae
    (hmode.counted hi ae (.inr rfl) _ _) (λe=>absurd e (nr ae)) (.inl ⟨ae,aog⟩)
  .obtain⟨g',W',es,hgo,⟨rfl,rfl⟩,hg'⟩:=hstep W (RW.refl W);exact idle hgo (.k1 hg') rfl ae ae
 |d1 h=>
  rcases Goes.cases h with hstop|⟨m',rfl,hstep⟩
  .obtain⟨_,hall⟩:=hstop W (RW.refl W);have hc1:cnt (D i)=1:=aog;have hV1:1<=Vc j D:=by have:=le_sumTo (f:=λx=>cnt (D x)) hi;simp only[Vc];omega
   have df2:∀jx e,(#[rd (stA Wg),wr (stA Wg)]:Array Event)[jx]?=some e->(MemAct.ofEvent e).touch?=none\/0<deafBehind 1 ((#[rd (stA Wg),wr (stA Wg)]:Array Event).extract 0 jx):=by
    intro jx e he
    match jx,he with
    |0,_=>exact .inr aof
    |1,_=>exact .inr (by simp[deafBehind,rd])
    |jx+2,he=>simp at he
   have hq0:∀q,cnt (⟨1,q,1⟩:WD)=0:=λ_=>rfl
   have opq:∀q,OpenSt j D->OpenSt j (upd D i ⟨1,q,1⟩):=λq h a ha=>by
    by_cases e:a=i
    .subst e;rw[upd_same];simp
    .rw[upd_ne D _ e];exact h a ha
   cases hmode with
   |opn h1 h2 h3=>
    obtain⟨u,hu⟩:∃u,Vc j D+pend tag=u+1:=⟨Vc j D+pend tag-1,ae⟩;rw[hu]at hwg;have hw1:WgAt ty Wg W (((u:Nat)+1)*KK+((0:Nat):Int)) 0:=mr;obtain⟨g',hgo,_,hq⟩:=hall u 0 ae ae hw1;obtain⟨q,hq⟩:=hq ae;have hv':Vc j (upd D i ⟨1,q,1⟩)+pend tag=u:=ap3;refine book hgo (aside_setCell W (stA Wg) _) (hwg.setSt _) bk_rw df2 (.quit hq) ae rfl ae ?_ (λe=>absurd e (nr ae)) (.inl ⟨ae,kW⟩);have e:((u:Nat):Int)*KK+((0:Nat):Int)=((Vc j (upd D i ⟨1,q,1⟩)+pend tag:Nat):Int)*KK:=by rw[hv'];simp
    rw[e];exact .opn h1 (opq q h2) (λvs ev=>by have:=h3 vs ev;omega)
   |reg h1 h2 h3=>
    obtain⟨u,hu⟩:∃u,Vc j D=u+1:=⟨Vc j D-1,ae⟩;rw[hu]at hwg;have hw1:WgAt ty Wg W (((u:Nat)+1)*KK+((1:Nat):Int)) 0:=mr;obtain⟨g',hgo,hl,hq⟩:=hall u 1 ae ae hw1;by_cases hv0:u=0
    .subst hv0;obtain⟨m₂,hk⟩:=hl ⟨rfl,rfl⟩;refine book hgo (aside_setCell W (stA Wg) _) (hwg.setSt _) bk_rw df2 (.d2 hk) ae rfl ae ?_ (λe=>absurd e (nr ae)) (.inl ⟨ae,kW⟩)
     have hoth:∀a,a<j->a≠i->(D a).stage=1:=λa ha e=>by have c0:=others_uncounted hi hu hc1 a ha e;have:=h2 a ha;simp only[cnt]at c0;split at c0<;>omega
     have:=ConcN.Mode.last (j:=j) (D:=upd D i ⟨4,m₂,1⟩) (tag:=tag) i h1 hi aon (λa ha e=>aoo);exact aqD
    .obtain⟨q,hq⟩:=hq ae;have hv':Vc j (upd D i ⟨1,q,1⟩)=u:=ap3;refine book hgo (aside_setCell W (stA Wg) _) (hwg.setSt _) bk_rw df2 (.quit hq) ae rfl ae ?_ (λe=>absurd e (nr ae)) (.inl ⟨ae,kW⟩);have e:((u:Nat):Int)*KK+((1:Nat):Int)=((Vc j (upd D i ⟨1,q,1⟩):Nat):Int)*KK+1:=by rw[hv'];simp
     rw[e];exact .reg h1 (opq q h2) ae
   |last L _ h2 h3 h4=>
    by_cases e:i=L
    .subst e;omega
    .have:=h4 i hi e;omega
   |sema h2=>have:=h2 i hi;omega
   |fin _ h2=>have:=h2 i hi;omega
  .obtain⟨g',W',es,hgo,⟨rfl,rfl⟩,hg'⟩:=hstep W (RW.refl W);exact idle hgo (.d1 hg') rfl ae ae
 |d2 h=>
  rcases Goes.cases h with hstop|⟨m',rfl,hstep⟩
  .obtain⟨_,hx⟩:=hstop W (RW.refl W);obtain⟨hW3,hoth,rfl,rfl⟩:=hmode.isLast hi ae;simp only[hst]at hwg;obtain⟨g',hgo,m₂,hk⟩:=hx mr;refine book hgo (.refl Wg W) hwg bk_rd (by intro jx e he;match jx,he with|0,_=>exact .inr aof|jx+1,he=>simp at he) (.d3 hk) ae rfl ae ?_ (λe=>absurd e (nr ae)) (.inl ⟨ae,kW⟩);have:=ConcN.Mode.last (j:=j) (D:=upd D i ⟨3,m₂,1⟩) (tag:=tag) i hW3 hi aon (λa ha e=>aoo);exact aqD
  .obtain⟨g',W',es,hgo,⟨rfl,rfl⟩,hg'⟩:=hstep W (RW.refl W);exact idle hgo (.d2 hg') rfl ae ae
 |d3 h=>
  rcases Goes.cases h with hstop|⟨m',rfl,hstep⟩
  .obtain⟨_,hx⟩:=hstop W (RW.refl W);obtain⟨hW3,hoth,rfl,rfl⟩:=hmode.isLast hi ae;simp only[hst]at hwg;obtain⟨g',hgo,m₂,hk⟩:=hx mr;refine book hgo (aside_setCell W (stA Wg) _) (hwg.setSt 0) (by intro e he;simp at he;subst he;exact bk_cell _ _ rfl) (by intro jx e he;match jx,he with|0,_=>exact .inr aof|jx+1,he=>simp at he) (.d4 hk) ae rfl ae ?_ (λe=>absurd e (nr ae)) (.inl ⟨ae,kW⟩);have:=ConcN.Mode.last (j:=j) (D:=upd D i ⟨2,m₂,1⟩) (tag:=tag) i hW3 hi aon (λa ha e=>aoo);exact aqD
  .obtain⟨g',W',es,hgo,⟨rfl,rfl⟩,hg'⟩:=hstep W (RW.refl W);exact idle hgo (.d3 hg') rfl ae ae
 |d4 h=>
  rcases Goes.cases h with hstop|⟨m',rfl,hstep⟩
  .obtain⟨_,hmw,hx⟩:=hstop W (RW.refl W);obtain⟨hW3,hoth,rfl,rfl⟩:=hmode.isLast hi ae;simp only[hst]at hwg;obtain⟨g',hgo,q,hq⟩:=hx mr
   have hrun':g'.status=.running:=by
    cases q with
    |zero=>exact absurd hq.2 au
    |succ q=>exact hq.elim (λx=>absurd x.2 au) (λx=>x.1)
   refine bookG hgo (aside_setCell W (smA Wg) _) (hwg.setSm 1) (es:=semEvents (smA Wg)) bk_sem ?_ (.quit hq) ae oK ae ?_ (λe=>absurd e (nr ae)) (.inl ⟨ae,kW⟩)
   .intro jx e he
    match jx,he with
    |0,he=>simp[semEvents]at he;subst he;exact .inl rfl
    |1,_=>exact .inr oK
    |2,_=>exact .inr oK
    |3,he=>simp[semEvents]at he;subst he;exact .inl rfl
    |jx+4,he=>simp[semEvents]at he
   .intro tag' ht hw;have hnb:=hw hmw hrun'
    have e3:tag'=.w3:=by
     rcases ht with rfl|⟨_,rfl⟩
     .cases tag'<;>first|rfl|exact hW3.elim|exact absurd rfl hnb
     .rfl
    subst e3;simp only[aF]
    exact .sema λa ha=>by
     by_cases e:a=i
     .subst e;rw[upd_same]
     .rw[upd_ne D _ e];exact hoth a ha e
  .obtain⟨g',W',es,hgo,⟨rfl,rfl⟩,hg'⟩:=hstep W (RW.refl W);exact idle hgo (.d4 hg') rfl ae ae
 |quit h=>
  cases m with
  |zero=>rw[h.1]at hrun;cases hrun
  |succ q=>
   rcases h with⟨hf,_⟩|⟨_,g',es,hmute,hstep,hq⟩
   .rw[hf]at hrun;cases hrun
   .have hbk:∀e∈es,Bk Wg e:=λe he=>bk_of_mute (hmute e he)
    have hno:∀jx e,es[jx]?=some e->(MemAct.ofEvent e).touch?=none\/0<deafBehind dd (es.extract 0 jx):=λjx e he=>.inl (touch_mute (hmute e (dX he)))
    refine book (hstep W) (.refl Wg W) hwg hbk hno (.quit hq) ae rfl ae (by have:=hmode.same (i:=i) q (deafBehind dd es);rwa[hst]at this) (λe=>(hacq e).app λi' r _ hi' hr=>?_) (.inr ⟨rfl,ae⟩);by_cases e':i'=i
    .subst e';exact hr.book hdk _ _ hbk hno
    .exact hr.appOther g_of_ofEvents ae
end
end Go.Gh
namespace Go.Gh
open Go.Conc Go.ConcN
open Go.ConcR (KK WgAt stA smA rd wr mk Payload DC0 g_of_ofEvents Bk ofEvent_loc_mark ofEvent_cell ofEvent_mk)
variable [Payload][qN][rf][wU]
section
variable {P:Program}{ty:TypeId}{Wg C n B:Nat}{M:Nat->Prop}{WP:Nat->Value->World->Prop}{K:List Nat->Goroutine->World->Prop}{N:Nat}
 {gs:Array Goroutine} {W W':World} {sl:Option (Nat×Nat)} {j:Nat} {D:Nat->WD} {ix:Nat->Nat} {ow:Nat->List Nat} {tag:CTag} {r f0 d0:Nat} {a:Goroutine} {t:Trace} {st sm:Int} {l0 ids:List Nat}
omit [Payload][qN][rf][wU]in
theorem ND{b:Addr}{wr:Bool}{x:Touch}(hx:(MemAct.ofEvent ⟨.cell b,wr,false⟩).touch?=some x):x.loc=.cell b/\x.write=wr:=by rw[ofEvent_cell]at hx;simp only[MemAct.touch?,fV]at hx;subst hx;exact⟨rfl,rfl⟩
theorem stepW(hb:Bears Wg C n B M WP K)(OH:N<2147483648)(ha:gs[0]?=some a)(hms:MS P ty Wg C n B M WP K ids l0 tag r f0 d0 a W)(hcm:Cm P ty Wg C n B M WP j gs W t D ix ow l0 d0)
  (hwg:WgAt ty Wg W st sm) (hmode:ConcN.Mode j D tag st sm) (hacq:tag=.ret->I_ Wg j t) (hi1:∀i,rf.el<=i->i<j->ix i∈ids) (hi2:∀x∈ids,∃i,rf.el<=i/\i<j/\ix i=x) (hN:j+r=N) (afh:j+pend tag<=N)
  {i:Nat} (hEl:rf.el<=i) (hi:i<j) {g:Goroutine} (hg:gs[i+1]?=some g) (hrun:g.status=.running):
  ∃m₁ ops μ',runT P (crowd gs W sl) (i+1)=(.next m₁,ops)/\Lt2 μ' (phi N (Vc j D) tag+Ssum j D,f0+2*Fsum j D)/\Iv P ty Wg C n B M WP K N μ' m₁ (t++ops):=by
 obtain⟨g₁,hg₁,hs⟩:=hcm.wk i hEl hi;obtain rfl:g=g₁:=by rw[hg]at hg₁;exact d_ hg₁
 generalize hst:(D i).stage=s at hs;generalize hfu:(D i).fuel=m at hs;generalize hde:(D i).deaf=dd at hs;cases hs with
 |lib h1 h2 h3 h4=>exact aba hb OH ha hms hcm hwg hmode hacq hi1 hi2 hN afh hEl hi hg hrun h1 h2 h3 h4 hst ae hde
 |comp h=>
  rename_i m;have hro:=Eu (Wg:=Wg) (C:=C) (n:=n) (B:=B) W (ow i) (· =ix i);rcases Goes.cases h with hstop|⟨m',rfl,hstep⟩
  .obtain⟨_,v,hwp,hhas,hG⟩:=hstop _ hro;exact aba hb OH ha hms hcm hwg hmode hacq hi1 hi2 hN afh hEl hi hg hrun (.r0 (hG W ⟨_,_,hwg⟩ hhas)) (λ_=>ak _) hwp (λh=>ae) hst ae hde
  .obtain⟨g',w',es,hgo,hD,hg'⟩:=hstep _ hro;obtain⟨hgo',hout⟩:=Et P (book W.heap.size (ow i)) (w:=W) hgo;have hWs:Wg<W.heap.size:=aN hcm.gm.hW hcm.gm.hB;have afj:Wg∉ow i:=λhx=>by have:=(hcm.gm.own i hi _ hx).1;have:=hcm.gm.hW;omega
   have hc:LY ty Wg C n (ow i) (· =ix i) W (w'.out W.output):=hD.chg rfl afj hWs hcm.gm.hCW;have ajZ:Ro Wg C n B (· =ix i) w' (gw (w'.out W.output) (ow i++fresh W.heap.size (w'.out W.output).heap.size)):=afb rfl hout;have tr:∀a b c,Ro Wg C n B (· =ix i) a b->Ro Wg C n B (· =ix i) b c->Ro Wg C n B (· =ix i) a c:=λ_ _ _ a b=>Ro.trans a b
   have hwg':WgAt ty Wg (w'.out W.output) st sm:=by exact aq2
   have hdf:deafBehind (D i).deaf es=0:=by rw[hde];exact deafBehind_idle (λe he=>by obtain⟨b,wr,rfl,_,_⟩:=hD.evs e he;exact⟨ai,ai⟩) 0
   refine workerGo hb ha hms hcm hi1 hi2 hN hEl hi hg hgo' hc (.comp (m:=m') (bJ tr hg' ajZ)) (λop hop=>?_) (λe he=>?_) (λe he=>?_) hdf (λh=>ae) hwg'
    (λ_ ht _=>ConcN.Mode.retag (by have:=hmode.same (i:=i) (m'+24) 0;rwa[hst]at this) ht) (λe=>absurd e (hmode.not_ret hi ae)) (.inr ⟨hst.symm,ae⟩)
   .obtain⟨e,he,rfl⟩:=Go.Conc.mem_ofEvents hop;obtain⟨b,wr,rfl,hlt,hcase⟩:=hD.evs e he;refine⟨rfl,λx hx=>?_⟩;obtain⟨hl,hw⟩:=ND hx;rw[hl,hw];rcases hcase with h1|h1|⟨i',rfl,h1⟩|⟨h1,h2,h3,h4,h5⟩
    .rw[xm]at h1;exact .inr (.inl ⟨ae,ae,b,rfl,.inl (by rw[f_,upd_same];exact anP _ h1)⟩)
    .exact .inr (.inl ⟨ae,ae,b,rfl,.inl (by rw[f_,upd_same];exact List.mem_append_right _ (Bq.2 ⟨h1,hlt⟩))⟩)
    .exact .inr (.inl ⟨ae,ae,_,rfl,.inr (by rw[f_,h1])⟩)
    .exact .inr (.inr ⟨⟨ae,b,rfl,h1,h2,h3,h5⟩,h4⟩)
   .exact aqZ
   .obtain⟨b,wr,rfl,_,_⟩:=hD.evs e he;simp
theorem U9(hb:Bears Wg C n B M WP K)(ha:gs[0]?=some a)(hcm:Cm P ty Wg C n B M WP j gs W t D ix ow l0 d0)(hi1:∀i,rf.el<=i->i<j->ix i∈ids)(hi2:∀x∈ids,∃i,rf.el<=i/\i<j/\ix i=x)(hN:j+r=N)
  {a':Goroutine} {es:Array Event} {tag':CTag} {f' dd:Nat} {st' sm':Int} (hgo:stepG P true a W=.go a' W' es) (hc:LY ty Wg C n l0 (λi=>¬M i) W W')
  (hok:∀op∈MemOp.ofEvents 0 a.frame.fn a.frame.place es,Ok0 (Ef Wg) (Rl C j ix ow) (RdF Wg C B) j op) (hlow:∀e∈es,Qd Wg W'.heap.size (MemAct.ofEvent e)) (hnr:∀e∈es,e.loc≠.mark (.release (stA Wg)))
  (hdd:deafBehind d0 es=dd) (Gq:MS P ty Wg C n B M WP K ids (l0++fresh W.heap.size W'.heap.size) tag' r f' dd a' W') (hwg:WgAt ty Wg W' st' sm') (hmode:ConcN.Mode j D tag' st' sm')
  (hacq:tag'=.ret->I_ Wg j (t++MemOp.ofEvents 0 a.frame.fn a.frame.place es))
  (hlt:phi N (Vc j D) tag'<phi N (Vc j D) tag\/(phi N (Vc j D) tag'=phi N (Vc j D) tag/\f'<f0)):
  ∃m₁ ops μ',runT P (crowd gs W sl) 0=(.next m₁,ops)/\Lt2 μ' (phi N (Vc j D) tag+Ssum j D,f0+2*Fsum j D)/\Iv P ty Wg C n B M WP K N μ' m₁ (t++ops):=by
 subst hdd;have hrun:=runT_crowd_go (P:=P) (sl:=sl) (i:=0) ha (by simpa using hgo);refine⟨_,_,(phi N (Vc j D) tag'+Ssum j D,f'+2*Fsum j D),hrun,?_,_,W',sl,j,D,ix,ow,tag',r,f',_,a',st',sm',_,ids,rfl,get_map_set_same _ _ _ (by rw[hcm.size];omega),Gq,hcm.step0 hb.wp hc hok hlow hnr (Xh hgo),hwg,hmode,hacq,hi1,hi2,hN,rfl⟩;rcases hlt with h|⟨h1,h2⟩
 .exact Prod.Lex.left _ _ ae
 .rw[h1];exact Prod.Lex.right _ ae
theorem Qe(hb:Bears Wg C n B M WP K)(ha:gs[0]?=some a)(hcm:Cm P ty Wg C n B M WP j gs W t D ix ow l0 0)(hwg:WgAt ty Wg W st sm)(hmode:ConcN.Mode j D tag st sm)(hi1:∀i,rf.el<=i->i<j->ix i∈ids)(hi2:∀x∈ids,∃i,rf.el<=i/\i<j/\ix i=x)(hN:j+r=N)(hne:tag≠.ret)
  {Stop:Goroutine->World->Prop} {m':Nat} (hstep:∀w₁,Ro Wg C n B (λi=>¬M i) (gw W l0) w₁->∃g' w' es,stepG P true a w₁=.go g' w' es/\Dg Wg C n B (λi=>¬M i) w₁ w' es/\Goes P true (Ro Wg C n B (λi=>¬M i)) (Dg Wg C n B (λi=>¬M i)) Stop m' g' w')
  (Gq:∀{g':Goroutine}{W':World}{l:List Nat},Goes P true (Ro Wg C n B (λi=>¬M i)) (Dg Wg C n B (λi=>¬M i)) Stop m' g' (gw W' l)->MS P ty Wg C n B M WP K ids l tag r m' 0 g' W') (hf:m'<f0):
  ∃m₁ ops μ',runT P (crowd gs W sl) 0=(.next m₁,ops)/\Lt2 μ' (phi N (Vc j D) tag+Ssum j D,f0+2*Fsum j D)/\Iv P ty Wg C n B M WP K N μ' m₁ (t++ops):=by
 obtain⟨g',w',es,hgo,hD,hg'⟩:=hstep _ (Eu W l0 _);obtain⟨hgo',hout⟩:=Et P (book W.heap.size l0) (w:=W) hgo;have hWs:Wg<W.heap.size:=aN hcm.gm.hW hcm.gm.hB;have afj:Wg∉l0:=λhx=>by have:=(hcm.gm.Ar _ hx).1;have:=hcm.gm.hW;omega
 have hc:LY ty Wg C n l0 (λi=>¬M i) W (w'.out W.output):=hD.chg rfl afj hWs hcm.gm.hCW;have ajZ:Ro Wg C n B (λi=>¬M i) w' (gw (w'.out W.output) (l0++fresh W.heap.size (w'.out W.output).heap.size)):=afb rfl hout;have tr:∀a b c,Ro Wg C n B (λi=>¬M i) a b->Ro Wg C n B (λi=>¬M i) b c->Ro Wg C n B (λi=>¬M i) a c:=λ_ _ _ a b=>Ro.trans a b
 have hwg':WgAt ty Wg (w'.out W.output) st sm:=by exact aq2
 refine U9 hb ha hcm hi1 hi2 hN hgo' hc (λop hop=>?_) (λe he=>?_) (λe he=>?_) (deafBehind_idle (λe he=>?_) 0) (Gq (bJ tr hg' ajZ)) hwg' hmode (λe=>absurd e hne) (.inr ⟨rfl,hf⟩)
 .obtain⟨e,he,rfl⟩:=Go.Conc.mem_ofEvents hop;obtain⟨b,wr,rfl,hlt,hcase⟩:=hD.evs e he;refine⟨rfl,λx hx=>.inr ?_⟩;obtain⟨hl,hw⟩:=ND hx;rw[hl,hw];have hB:=hcm.gm.hB;have hWB:=hcm.gm.hW;have hCB:=hcm.gm.hC;rcases hcase with h1|h1|⟨i',rfl,h1⟩|⟨h1,h2,h3,h4,h5⟩
  .rw[xm]at h1;have hb0:=hcm.gm.Ar _ h1;refine⟨U7 ae (λho=>by have:=hcm.gm.old _ ho;omega),λk k1 kj ⟨_,_,b',e',hz⟩=>?_,λ_ k k1 kj ⟨_,b',e',z1,z2,z3,_⟩=>?_⟩
   .obtain rfl:=dP e';rcases hz with hz|hz
    .exact hcm.gm.Xf (k-1) _ ae hz h1
    .rw[hz]at hb0;dsimp only at hb0;omega
   .obtain rfl:=dP e';omega
  .have h1':W.heap.size<=b.block:=h1;refine⟨U7 ae (λho=>by have:=hcm.gm.old _ ho;omega),λk k1 kj ⟨_,_,b',e',hz⟩=>?_,λ_ k k1 kj ⟨_,b',e',z1,z2,z3,_⟩=>?_⟩
   .obtain rfl:=dP e';have:W.heap.size<=b.block:=h1;rcases hz with hz|hz
    .have:=hcm.gm.own (k-1) ae _ hz;omega
    .rw[hz]at this;exact aqu
   .obtain rfl:=dP e';have:W.heap.size<=b.block:=h1;omega
  .refine⟨U7 hcm.gm.hCW (λho=>(hcm.gm.old _ ho).2 rfl),λk k1 kj ⟨_,_,b',e',hz⟩=>?_,λ_ k k1 kj ⟨_,b',e',z1,z2,z3,_⟩=>?_⟩
   .obtain rfl:=dP e';rcases hz with hz|hz
    .have:=hcm.gm.own (k-1) ae _ hz;exact aqu
    .have e2:i'=ix (k-1):=by injection hz
     exact h1 (e2▸hcm.gm.ixM (k-1) ae ae)
   .obtain rfl:=dP e';exact z3 rfl
  .refine⟨U7 h2 h5,λk k1 kj ⟨_,_,b',e',hz⟩=>?_,λhwr=>by rw[h4]at hwr;cases hwr⟩
   .obtain rfl:=dP e';rcases hz with hz|hz
    .have:=hcm.gm.own (k-1) ae _ hz;omega
    .rw[hz]at h3;exact h3 rfl
 .exact aqZ
 .obtain⟨b,wr,rfl,_,_⟩:=hD.evs e he;simp
 .obtain⟨b,wr,rfl,_,_⟩:=hD.evs e he;exact⟨ai,ai⟩
end
end Go.Gh
namespace Go.Gh
open Go.Conc Go.ConcN
open Go.ConcR (KK WgAt stA smA rd wr mk Payload DC0 g_of_ofEvents Bk ofEvent_loc_mark ofEvent_cell ofEvent_mk)
variable [Payload][qN][rf][wU]
section
variable {P:Program}{ty:TypeId}{Wg C n B:Nat}{M:Nat->Prop}{WP:Nat->Value->World->Prop}{K:List Nat->Goroutine->World->Prop}{N:Nat}
 {gs:Array Goroutine} {W W':World} {sl:Option (Nat×Nat)} {j:Nat} {D:Nat->WD} {ix:Nat->Nat} {ow:Nat->List Nat} {tag tag':CTag} {r f0 f' d0 dd:Nat} {a a':Goroutine} {t:Trace} {st sm st' sm':Int} {l0 ids:List Nat} {es:Array Event}
def Qg(P:Program)(ty:TypeId)(Wg C n B:Nat)(M:Nat->Prop)(WP:Nat->Value->World->Prop)(K:List Nat->Goroutine->World->Prop)(N:Nat)(gs:Array Goroutine)(W:World)(sl:Option (Nat×Nat))(t:Trace)(μ:Nat×Nat):Prop:=
 ∃m₁ ops μ',runT P (crowd gs W sl) 0=(.next m₁,ops)/\Lt2 μ' μ/\Iv P ty Wg C n B M WP K N μ' m₁ (t++ops)
theorem Qg.mono{μ μ':Nat×Nat}(h:Qg P ty Wg C n B M WP K N gs W sl t μ)(hl:Lt2 μ μ'):Qg P ty Wg C n B M WP K N gs W sl t μ':=
 let⟨m₁,ops,ν,h1,h2,h3⟩:=h;⟨m₁,ops,ν,h1,lt2_trans h2 hl,h3⟩
structure TJ(P:Program)(ty:TypeId)(Wg C n B:Nat)(M:Nat->Prop)(WP:Nat->Value->World->Prop)(K:List Nat->Goroutine->World->Prop)(N j r:Nat)(gs:Array Goroutine)(W:World)(t:Trace)(D:Nat->WD)(ix:Nat->Nat)(ow:Nat->List Nat)(l0 ids:List Nat)(d0:Nat)(a:Goroutine)(st sm:Int):Prop where
 hb:Bears Wg C n B M WP K
 OH:N<2147483648
 ha:gs[0]?=some a
 hcm:Cm P ty Wg C n B M WP j gs W t D ix ow l0 d0
 hwg:WgAt ty Wg W st sm
 hi1:∀i,rf.el<=i->i<j->ix i∈ids
 hi2:∀x∈ids,∃i,rf.el<=i/\i<j/\ix i=x
 hN:j+r=N
theorem TJ.hWs(h:TJ P ty Wg C n B M WP K N j r gs W t D ix ow l0 ids d0 a st sm):Wg<W.heap.size:=aN h.hcm.gm.hW h.hcm.gm.hB
theorem TJ.ro(h:TJ P ty Wg C n B M WP K N j r gs W t D ix ow l0 ids d0 a st sm)(hAs:Aside Wg W W')(hl:WgLive ty Wg W'):Ro Wg C n B (λi=>¬M i) (gw W l0) (gw W' l0):=
 (LY.of_wg (n:=n) (lo:=[]) (Cm:=λ_=>False) hAs hl h.hcm.gm.hCW).ro h.hcm.gm.hB ai (λb hb'=>⟨ai,(h.hcm.gm.Ar b hb').2,by have:=(h.hcm.gm.Ar b hb').1;have:=h.hcm.gm.hC;omega,by have:=(h.hcm.gm.Ar b hb').1;have:=h.hcm.gm.hW;omega⟩) (λ_ _=>id)
theorem TJ.bkp(h:TJ P ty Wg C n B M WP K N j r gs W t D ix ow l0 ids d0 a st sm)(hgo:stepG P true a W=.go a' W' es)(hAs:Aside Wg W W')(hwg':WgAt ty Wg W' st' sm')(hbk:∀e∈es,Bk Wg e)(hdd:deafBehind d0 es=dd)
  (Gq:MS P ty Wg C n B M WP K ids l0 tag' r f' dd a' W') (hmode':ConcN.Mode j D tag' st' sm') (hne:tag'≠.ret) (hlt:phi N (Vc j D) tag'<phi N (Vc j D) tag\/(phi N (Vc j D) tag'=phi N (Vc j D) tag/\f'<f0)):
  Qg P ty Wg C n B M WP K N gs W sl t (phi N (Vc j D) tag+Ssum j D,f0+2*Fsum j D):=
 U9 h.hb h.ha h.hcm h.hi1 h.hi2 h.hN hgo (LY.of_wg hAs ⟨_,_,hwg'⟩ h.hcm.gm.hCW) (ajY hbk) (afg hbk (by rw[hAs.size];exact h.hWs)) (norel_of_Bk hbk) hdd
  (by rw[hAs.size,BL,dC];exact Gq) hwg' hmode' (λe=>absurd e hne) hlt
theorem TJ.say(h:TJ P ty Wg C n B M WP K N j r gs W t D ix ow l0 ids d0 a st sm){e:Event}(hgo:stepG P true a W=.go a' W #[e])(ht:∀x,(MemAct.ofEvent e).touch?=some x->∃ad:Addr,x.loc=.cell ad/\ad.block=Wg/\x.kind=.said)
  (hne:e.loc≠.mark .disable/\e.loc≠.mark .enable/\e.loc≠.mark (.release (stA Wg)))
  (Gq:MS P ty Wg C n B M WP K ids l0 tag' r f' d0 a' W) (hmode':ConcN.Mode j D tag' st sm) (hacq:tag'=.ret->I_ Wg j (t++MemOp.ofEvents 0 a.frame.fn a.frame.place #[e]))
  (hlt:phi N (Vc j D) tag'<phi N (Vc j D) tag\/(phi N (Vc j D) tag'=phi N (Vc j D) tag/\f'<f0)):
  Qg P ty Wg C n B M WP K N gs W sl t (phi N (Vc j D) tag+Ssum j D,f0+2*Fsum j D):=by
 refine U9 h.hb h.ha h.hcm h.hi1 h.hi2 h.hN hgo (.refl W) (λop hop=>?_) (λe' he'=>?_) (λe' he'=>?_) (deafBehind_idle (λe' he'=>?_) d0)
  apN h.hwg hmode' hacq hlt
 .obtain⟨e',he',rfl⟩:=Go.Conc.mem_ofEvents hop;obtain rfl:e'=e:=oh;refine⟨rfl,λx hx=>.inl ?_⟩;obtain⟨ad,h1,h2,h3⟩:=ht x hx;exact⟨.inl ⟨ad,h1,h2⟩,by rw[h3];simp⟩
 .obtain rfl:e'=e:=oh;intro x hx;obtain⟨ad,h1,h2,h3⟩:=ht x hx;refine⟨λad' e1=>?_,λe1=>(by rw[h3]at e1;cases e1),by rw[h1];rfl⟩;rw[h1]at e1;obtain rfl:=dP e1;rw[h2];exact h.hWs
 .obtain rfl:e'=e:=oh;exact hne.2.2
 .obtain rfl:e'=e:=oh;exact⟨hne.1,hne.2.1⟩
theorem TJ.idle(h:TJ P ty Wg C n B M WP K N j r gs W t D ix ow l0 ids d0 a st sm)(hgo:stepG P true a W=.go a' W #[])(Gq:MS P ty Wg C n B M WP K ids l0 tag r f' d0 a' W)(hmode:ConcN.Mode j D tag st sm)
  (hacq:tag=.ret->I_ Wg j t) (hf:f'<f0):Qg P ty Wg C n B M WP K N gs W sl t (phi N (Vc j D) tag+Ssum j D,f0+2*Fsum j D):=by
 refine U9 h.hb h.ha h.hcm h.hi1 h.hi2 h.hN hgo (.refl W) (λop hop=>?_) ai ai rfl apN h.hwg hmode (λe=>(hacq e).app λi r _ _ hr=>hr.appOther g_of_ofEvents ae) (.inr ⟨rfl,hf⟩);obtain⟨e',he',rfl⟩:=Go.Conc.mem_ofEvents hop;simp at he'
theorem TJ.kd1{m mm:Nat}{gT:Goroutine}(h:TJ P ty Wg C n B M WP K N j (r+1) gs W t D ix ow l0 ids 0 a st sm)(hmode:ConcN.Mode j D (.sp (r+1) 6) st sm)(hG:Goes P true (RL ty Wg) DC0 (AKd P ty Wg gT) m a W)
  (h0:Goes P true (Ro Wg C n B (λi=>¬M i)) (Dg Wg C n B (λi=>¬M i)) (AtGo P ty Wg C n B M WP (Sp P ty Wg C n B M WP K r) ids) mm gT (gw W l0)):
  Qg P ty Wg C n B M WP K N gs W sl t (phi N (Vc j D) (.sp (r+1) 6)+Ssum j D,m+2*Fsum j D):=by
 rcases Goes.cases hG with hstop|⟨m',rfl,hstep⟩
 .obtain⟨_,a',hgo,m₂,hk⟩:=hstop W (zN ty Wg W);exact h.bkp hgo (.refl Wg W) h.hwg bk_dis rfl (.a1 hk h0) (hmode.reopen trivial trivial rfl ai) ai (.inl dI)
 .obtain⟨a',w',es,hgo,⟨rfl,rfl⟩,hg'⟩:=hstep W (zN ty Wg W);exact h.idle hgo (.kd1 hg' h0) hmode ai ae
theorem TJ.c2{m:Nat}(h:TJ P ty Wg C n B M WP K N j (r+1) gs W t D ix ow l0 ids 0 a st sm)(hmode:ConcN.Mode j D (.sp (r+1) 1) st sm)
  (h0:Goes P true (Ro Wg C n B (λi=>¬M i)) (Dg Wg C n B (λi=>¬M i)) (AtGo P ty Wg C n B M WP (Sp P ty Wg C n B M WP K r) ids) m a (gw W l0)):
  Qg P ty Wg C n B M WP K N gs W sl t (phi N (Vc j D) (.sp (r+1) 1)+Ssum j D,m+2*Fsum j D):=by
 rcases Goes.cases h0 with hstop|⟨m',rfl,hstep⟩
 .obtain⟨_,a',child,idx,l,hsp,_,hid,hM,hl,⟨m₂,hwk⟩,hnext⟩:=hstop _ (Eu W l0 _);obtain⟨hsp',_⟩:=Ol P (book W.heap.size l0) (w:=W) hsp;have hsp2:stepG P true a W=.spawn a' child W #[]:=hsp';obtain⟨ho,rfl,rfl,_⟩:=hmode.open_inv trivial;have hl':∀b∈l,b∈l0:=λb hb'=>(xm W l0 b).1 (hl b hb')
  have hl0:∀b,b∈l0.filter (λb=>decide (b∉l))↔b∈l0/\b∉l:=λb=>ai
  have hnx:=hnext (l0.filter (λb=>decide (b∉l))) (λb=>by rw[xm];exact hl0 b);have alh:Sp P ty Wg C n B M WP K r (idx::ids) a' (gw W (l0.filter (λb=>decide (b∉l)))):=hnx;have hrun':=runT_crowd_spawn (P:=P) (sl:=sl) (i:=0) h.ha (by simpa using hsp2);rw[h.hcm.size]at hrun'
  have hcm':=h.hcm.spawn (a':=a') (x:={g:=0,fn:=a.frame.fn,pos:=a.frame.place,act:=.go (j+1)}) (y:={g:=j+1,fn:=child.frame.fn,pos:=a.frame.place,act:=.start}) ⟨rfl,rfl⟩ ⟨rfl,rfl⟩
   hl' hl0 (λi hEl hi e=>hid (by rw[<-(show ix i=idx from e)];exact h.hi1 i hEl hi)) hM (show Wk P ty Wg C n B WP idx m₂ child (gw W l)from hwk)
  have eV:Vc (j+1) (upd D j ⟨7,m₂+24,0⟩)=Vc j D+1:=by simp only[Vc,sumTo,upd_same];rw[sumTo_upd_out D _ cnt (ak _)];rfl
  have eS:Ssum (j+1) (upd D j ⟨7,m₂+24,0⟩)=Ssum j D+7:=by simp only[Ssum,sumTo,upd_same];rw[sumTo_upd_out D _ WD.stage (ak _)]
  have ho':OpenSt (j+1) (upd D j ⟨7,m₂+24,0⟩):=λi hi=>by
   by_cases e:i=j
   .subst e;rw[upd_same];simp
   .rw[upd_ne D _ e];exact ho i ae
  have ha':((gs.setIfInBounds 0 a').push child)[0]?=some a':=by rw[an4 (by simp[h.hcm.size]),<-kN];simp[h.hcm.size]
  have ali:∀i,rf.el<=i->i<j+1->upd ix j idx i∈idx::ids:=λi hEl hi=>by
   by_cases e:i=j
   .subst e;rw[upd_same];simp
   .rw[upd_ne ix _ e];exact lZ _ (h.hi1 i hEl ae)
  have alj:∀x∈idx::ids,∃i,rf.el<=i/\i<j+1/\upd ix j idx i=x:=λx hx=>by
   rcases dw.1 hx with rfl|hx
   .exact⟨j,h.hcm.gm.hel,ae,upd_same _ _ _⟩
   .obtain⟨i,hEl,hi,e⟩:=h.hi2 x hx;exact⟨i,hEl,ae,by rw[upd_ne ix _ ae];exact e⟩
  have est:∀tag',pend tag'=0->((Vc j D+pend (.sp (r+1) 1):Nat):Int)*KK=((Vc (j+1) (upd D j ⟨7,m₂+24,0⟩)+pend tag':Nat):Int)*KK:=λtag' hp=>by rw[eV,hp];simp[pend]
  have hN:=h.hN;cases r with
  |zero=>
   obtain⟨m₃,hk⟩:=alh
   refine⟨_,_,(phi N (Vc (j+1) (upd D j ⟨7,m₂+24,0⟩)) (.sp 0 7)+Ssum (j+1) (upd D j ⟨7,m₂+24,0⟩),m₃+2*Fsum (j+1) (upd D j ⟨7,m₂+24,0⟩)),hrun',Prod.Lex.left _ _ dI,
    _,W,sl,j+1,_,_,_,.sp 0 7,0,m₃,0,a',_,_,_,idx::ids,rfl,ha',.c0 hk,hcm',h.hwg,?_,ai,ali,alj,ae,rfl⟩
   rw[est (.sp 0 7) rfl];exact .opn trivial ho' ai
  |succ r'=>
   obtain⟨m₃,hk⟩:=alh
   refine⟨_,_,(phi N (Vc (j+1) (upd D j ⟨7,m₂+24,0⟩)) (.sp (r'+1) 7)+Ssum (j+1) (upd D j ⟨7,m₂+24,0⟩),m₃+2*Fsum (j+1) (upd D j ⟨7,m₂+24,0⟩)),hrun',Prod.Lex.left _ _ dI,
    _,W,sl,j+1,_,_,_,.sp (r'+1) 7,r'+1,m₃,0,a',_,_,_,idx::ids,rfl,ha',.c1 hk,hcm',h.hwg,?_,ai,ali,alj,ae,rfl⟩
   rw[est (.sp (r'+1) 7) rfl];exact .opn trivial ho' ai
 .exact Qe h.hb h.ha h.hcm h.hwg hmode h.hi1 h.hi2 h.hN ai hstep (λhh=>.c2 hh) ae
theorem TJ.kd{m:Nat}{gT:Goroutine}{An:Goroutine->World->Prop}(h:TJ P ty Wg C n B M WP K N j 0 gs W t D ix ow l0 ids 0 a st sm)(hmode:ConcN.Mode j D .kd st sm)(hA1:∀g w,An g w->g.status=.running)
  (hA2:∀g w,An g w->∃m,Goes P true (RL ty Wg) DC0 (WW1 P ty Wg gT An) m g w) (hG:Goes P true (RL ty Wg) DC0 (WKd P ty Wg An) m a W) (hK:K ids gT (gw W l0)):
  Qg P ty Wg C n B M WP K N gs W sl t (phi N (Vc j D) .kd+Ssum j D,m+2*Fsum j D):=by
 have hN:=h.hN;have hVj:=Vc_le j D;rcases Goes.cases hG with hstop|⟨m',rfl,hstep⟩
 .obtain⟨_,a',hgo,m₂,hk⟩:=hstop W (zN ty Wg W);exact h.bkp hgo (.refl Wg W) h.hwg bk_dis rfl (.anch hA1 hA2 hk hK) (hmode.reopen trivial trivial rfl ai) ai (.inl dI)
 .obtain⟨a',w',es,hgo,⟨rfl,rfl⟩,hg'⟩:=hstep W (zN ty Wg W);exact h.idle hgo (.kd hA1 hA2 hg' hK) hmode ai ae
theorem TJ.w1{m:Nat}{gT:Goroutine}{An:Goroutine->World->Prop}(h:TJ P ty Wg C n B M WP K N j 0 gs W t D ix ow l0 ids 1 a st sm)(hmode:ConcN.Mode j D .w1 st sm)(hA1:∀g w,An g w->g.status=.running)
  (hA2:∀g w,An g w->∃m,Goes P true (RL ty Wg) DC0 (WW1 P ty Wg gT An) m g w) (hG:Goes P true (RL ty Wg) DC0 (WW1 P ty Wg gT An) m a W) (hK:K ids gT (gw W l0)):
  Qg P ty Wg C n B M WP K N gs W sl t (phi N (Vc j D) .w1+Ssum j D,m+2*Fsum j D):=by
 rcases Goes.cases hG with hstop|⟨m',rfl,hstep⟩
 .obtain⟨_,hall⟩:=hstop W (zN ty Wg W);obtain⟨ho,rfl,rfl,_⟩:=hmode.open_inv trivial;have hV:=Vc_le j D;have hN:=h.hN;have OH:=h.OH;have hwg:=h.hwg;obtain⟨a',hgo,h0,hne⟩:=hall (Vc j D) ae an8;by_cases hv:Vc j D=0
  .obtain⟨m₂,hk⟩:=h0 hv;refine h.bkp hgo (.refl Wg W) h.hwg bk_rd rfl (tag':=.ke) (.ke hk hK) ?_ ai (.inl dI);have e:((Vc j D+pend .w1:Nat):Int)*KK=0:=by rw[hv];simp[pend]
   rw[e];exact .fin trivial (allQuit_of ho hv)
  .obtain⟨m₂,hk⟩:=hne hv;exact h.bkp hgo (.refl Wg W) h.hwg bk_rd rfl (tag':=.w2 (Vc j D)) (.w2 hA1 hA2 hk hK) (hmode.reopen trivial trivial rfl (λvs e=>by cases e;omega)) ai (.inl dI)
 .obtain⟨a',w',es,hgo,⟨rfl,rfl⟩,hg'⟩:=hstep W (zN ty Wg W);exact h.idle hgo (.w1 hA1 hA2 hg' hK) hmode ai ae
omit [Payload][qN][rf][wU]in
theorem Qh{Wg:Nat}{x:Touch}:((MemAct.ofEvent (mk (.read (smA Wg)))).touch?=some x->∃ad:Addr,x.loc=.cell ad/\ad.block=Wg/\x.kind=.said)/\((MemAct.ofEvent (mk (.write (smA Wg)))).touch?=some x->∃ad:Addr,x.loc=.cell ad/\ad.block=Wg/\x.kind=.said):=by
 refine⟨λh=>?_,λh=>?_⟩<;>
 .simp only[mk,MemAct.ofEvent,MemAct.touch?,fV]at h;subst h;exact⟨_,rfl,rfl,rfl⟩
theorem stepM(h:TJ P ty Wg C n B M WP K N j r gs W t D ix ow l0 ids d0 a st sm)(hms:MS P ty Wg C n B M WP K ids l0 tag r f0 d0 a W)(hmode:ConcN.Mode j D tag st sm)(hacq:tag=.ret->I_ Wg j t)(hrun:a.status=.running):
  (tag=.ret/\K ids a (gw W l0))\/Qg P ty Wg C n B M WP K N gs W sl t (phi N (Vc j D) tag+Ssum j D,f0+2*Fsum j D):=by
 have hVj:=Vc_le j D;have hN:=h.hN;have OH:=h.OH;have rl:=zN ty Wg W;have hlive:WgLive ty Wg W:=⟨_,_,h.hwg⟩;have tr:∀a b c,Ro Wg C n B (λi=>¬M i) a b->Ro Wg C n B (λi=>¬M i) b c->Ro Wg C n B (λi=>¬M i) a c:=λ_ _ _ a b=>Ro.trans a b
 cases hms with
 |c1 h0=>
  refine .inr ?_;rcases Goes.cases h0 with hstop|⟨m',rfl,hstep⟩
  .obtain⟨_,gT,mm,hadd,hG⟩:=hstop _ (Eu W l0 _);obtain⟨m₂,hk⟩:=hadd W hlive;exact(h.kd1 (hmode.reopen trivial trivial rfl ai) hk hG).mono (Prod.Lex.left _ _ dI)
  .exact Qe h.hb h.ha h.hcm h.hwg hmode h.hi1 h.hi2 h.hN ai hstep (λhh=>.c1 hh) ae
 |kd1 hG h0=>exact .inr (h.kd1 hmode hG h0)
 |a1 hG h0=>
  refine .inr ?_;rcases Goes.cases hG with hstop|⟨m',rfl,hstep⟩
  .obtain⟨_,hall⟩:=hstop W rl;obtain⟨ho,rfl,rfl,_⟩:=hmode.open_inv trivial;have hwg:=h.hwg;obtain⟨a',hgo,hz,hnz⟩:=hall (Vc j D) ae an8;have e:∀r s,s<=3->(((Vc j D:Nat):Int)+1)*KK=((Vc j D+pend (.sp r s):Nat):Int)*KK:=λr s hs=>by simp[pend,hs]
   have hro:=h.ro (aside_setCell W (stA Wg) (.int .u64 ((((Vc j D:Nat):Int)+1)*KK))) ⟨_,_,h.hwg.setSt _⟩;by_cases hv:Vc j D=0
   .obtain⟨m₂,hk⟩:=hz hv;refine h.bkp hgo (aside_setCell W (stA Wg) _) (h.hwg.setSt _) bk_rw rfl (.rd1 hk (bJ tr h0 hro)) ?_ ai (.inl dI);rw[e _ 3 ae];exact .opn trivial ho ai
   .obtain⟨m₂,hk⟩:=hnz hv;refine h.bkp hgo (aside_setCell W (stA Wg) _) (h.hwg.setSt _) bk_rw rfl (.ke1 hk (bJ tr h0 hro)) ?_ ai (.inl dI);rw[e _ 2 ae];exact .opn trivial ho ai
  .obtain⟨a',w',es,hgo,⟨rfl,rfl⟩,hg'⟩:=hstep W rl;exact h.idle hgo (.a1 hg' h0) hmode ai ae
 |rd1 hG h0=>
  refine .inr ?_;rcases Goes.cases hG with hstop|⟨m',rfl,hstep⟩
  .obtain⟨_,a',hgo,m₂,hk⟩:=hstop W rl;exact h.say hgo (λx hx=>Qh.1 hx) ⟨fK,fK,fK⟩ (.ke1 hk h0) (hmode.reopen trivial trivial rfl ai) ai (.inl dI)
  .obtain⟨a',w',es,hgo,⟨rfl,rfl⟩,hg'⟩:=hstep W rl;exact h.idle hgo (.rd1 hg' h0) hmode ai ae
 |ke1 hG h0=>
  refine .inr ?_;rcases Goes.cases hG with hstop|⟨m',rfl,hstep⟩
  .obtain⟨_,a',hgo,m₂,hk⟩:=hstop W rl;exact h.bkp hgo (.refl Wg W) h.hwg bk_en rfl (.en1 hk h0) (hmode.reopen trivial trivial rfl ai) ai (.inl dI)
  .obtain⟨a',w',es,hgo,⟨rfl,rfl⟩,hg'⟩:=hstep W rl;exact h.idle hgo (.ke1 hg' h0) hmode ai ae
 |en1 hG h0=>
  refine .inr ?_;rcases Goes.cases hG with hstop|⟨m',rfl,hstep⟩
  .obtain⟨_,rfl⟩:=hstop W rl;exact(h.c2 hmode h0).mono (Prod.Lex.right _ ae)
  .obtain⟨a',w',es,hgo,⟨rfl,rfl⟩,hg'⟩:=hstep W rl;exact h.idle hgo (.en1 hg' h0) hmode ai ae
 |c2 h0=>exact .inr (h.c2 hmode h0)
 |c0 h0=>
  refine .inr ?_;rcases Goes.cases h0 with hstop|⟨m',rfl,hstep⟩
  .obtain⟨_,gT,⟨An,hA1,hA2,alk⟩,hK⟩:=hstop _ (Eu W l0 _);obtain⟨m₂,hk⟩:=alk W hlive;exact(h.kd (hmode.reopen trivial trivial rfl ai) hA1 hA2 hk hK).mono (Prod.Lex.left _ _ dI)
  .exact Qe h.hb h.ha h.hcm h.hwg hmode h.hi1 h.hi2 h.hN ai hstep (λhh=>.c0 hh) ae
 |kd hA1 hA2 hG hK=>exact .inr (h.kd hmode hA1 hA2 hG hK)
 |anch hA1 hA2 hG hK=>
  refine .inr ?_;rcases Goes.cases hG with hstop|⟨m',rfl,hstep⟩
  .obtain⟨m₂,hk⟩:=hA2 a W (hstop W rl);exact(h.w1 (hmode.reopen trivial trivial rfl ai) hA1 hA2 hk hK).mono (Prod.Lex.left _ _ dI)
  .obtain⟨a',w',es,hgo,⟨rfl,rfl⟩,hg'⟩:=hstep W rl;exact h.idle hgo (.anch hA1 hA2 hg' hK) hmode ai ae
 |w1 hA1 hA2 hG hK=>exact .inr (h.w1 hmode hA1 hA2 hG hK)
 |@w2 vs _ _ _ _ _ hA1 hA2 hG hK=>
  refine .inr ?_;rcases Goes.cases hG with hstop|⟨m',rfl,hstep⟩
  .obtain⟨_,hall⟩:=hstop W rl;obtain⟨ho,rfl,rfl,hw2⟩:=hmode.open_inv trivial;obtain⟨hle,h1⟩:=hw2 vs rfl;have hwg:=h.hwg;obtain⟨hhit,hmiss⟩:=hall (Vc j D) ae an8;by_cases e:Vc j D=vs
   .obtain⟨a',hgo,m₂,hk⟩:=hhit e;have hro:=h.ro (aside_setCell W (stA Wg) (.int .u64 (((Vc j D:Nat):Int)*KK+1))) ⟨_,_,h.hwg.setSt _⟩;exact h.bkp hgo (aside_setCell W (stA Wg) _) (h.hwg.setSt _) bk_rw rfl (.wr hk (h.hb.k _ _ _ _ hro hK)) (.reg trivial ho ae) ai (.inl dI)
   .obtain⟨a',hgo,m₂,hk⟩:=hmiss e;exact h.bkp hgo (.refl Wg W) h.hwg bk_rd rfl (.anch hA1 hA2 hk hK) (hmode.reopen trivial trivial rfl ai) ai (.inl dI)
  .obtain⟨a',w',es,hgo,⟨rfl,rfl⟩,hg'⟩:=hstep W rl;exact h.idle hgo (.w2 hA1 hA2 hg' hK) hmode ai ae
 |wr hG hK=>
  refine .inr ?_;rcases Goes.cases hG with hstop|⟨m',rfl,hstep⟩
  .obtain⟨_,a',hgo,m₂,h60,hk⟩:=hstop W rl;exact h.say hgo (λx hx=>Qh.2 hx) ⟨fK,fK,fK⟩ (.w3 hk hK) hmode ai (.inr ⟨rfl,ae⟩)
  .obtain⟨a',w',es,hgo,⟨rfl,rfl⟩,hg'⟩:=hstep W rl;exact h.idle hgo (.wr hg' hK) hmode ai ae
 |w3 hG hK=>
  refine .inr ?_;rcases Goes.cases hG with hstop|⟨m',rfl,hstep⟩
  .obtain⟨_,hoff,hblk,htake⟩:=hstop W rl;have hwg:=h.hwg;cases hmode with
   |opn h1 _ _=>exact h1.elim
   |reg h1 h2 h3=>exact h.bkp (hblk ⟨_,hwg⟩) (.refl Wg W) hwg ai rfl (.blk hstop hK) (.reg trivial h2 h3) ai (.inr ⟨rfl,ae⟩)
   |last L h1 h2 h3 h4=>exact h.bkp (hblk ⟨_,hwg⟩) (.refl Wg W) hwg ai rfl (.blk hstop hK) (.last L trivial h2 h3 h4) ai (.inr ⟨rfl,ae⟩)
   |sema h2=>
    obtain⟨a',hgo,m₂,hk⟩:=htake hwg;have hro:=h.ro (aside_setCell W (smA Wg) (.int .u32 0)) ⟨_,_,h.hwg.setSm 0⟩;exact h.bkp hgo (aside_setCell W (smA Wg) _) (hwg.setSm 0) bk_sem oK (.w4 hk (h.hb.k _ _ _ _ hro hK)) (.fin trivial h2) ai (.inl dI)
   |fin h1 _=>exact h1.elim
  .obtain⟨a',w',es,hgo,⟨rfl,rfl⟩,hg'⟩:=hstep W rl;exact h.idle hgo (.w3 hg' hK) hmode ai ae
 |blk hG hK=>simp at hrun
 |w4 hG hK=>
  refine .inr ?_;rcases Goes.cases hG with hstop|⟨m',rfl,hstep⟩
  .obtain⟨_,hx⟩:=hstop W rl;obtain⟨hq,rfl,rfl⟩:=hmode.fin_inv trivial;obtain⟨a',hgo,m₂,hk⟩:=hx h.hwg;exact h.bkp hgo (.refl Wg W) h.hwg bk_rd rfl (.ke hk hK) (.fin trivial hq) ai (.inl dI)
  .obtain⟨a',w',es,hgo,⟨rfl,rfl⟩,hg'⟩:=hstep W rl;exact h.idle hgo (.w4 hg' hK) hmode ai ae
 |ke hG hK=>
  refine .inr ?_;rcases Goes.cases hG with hstop|⟨m',rfl,hstep⟩
  .obtain⟨_,a',hgo,m₂,hk⟩:=hstop W rl;obtain⟨hq,rfl,rfl⟩:=hmode.fin_inv trivial;exact h.bkp hgo (.refl Wg W) h.hwg bk_en rfl (.acq hk hK) (.fin trivial hq) ai (.inl dI)
  .obtain⟨a',w',es,hgo,⟨rfl,rfl⟩,hg'⟩:=hstep W rl;exact h.idle hgo (.ke hg' hK) hmode ai ae
 |acq hG hK=>
  refine .inr ?_;rcases Goes.cases hG with hstop|⟨m',rfl,hstep⟩
  .obtain⟨_,a',hgo,m₂,hk⟩:=hstop W rl;obtain⟨hq,rfl,rfl⟩:=hmode.fin_inv trivial;refine h.say hgo (λx hx=>jQ) ⟨fK,fK,fK⟩ (.ret hk hK) (.fin trivial hq) (λ_=>?_) (.inl dI);have e1:MemOp.ofEvents 0 a.frame.fn a.frame.place #[mk (.acquire (stA Wg))]=#[{g:=0,fn:=a.frame.fn,pos:=a.frame.place,act:=.mark (.acquire (stA Wg))}]:=by rw[ofEvents_eq];simp[ofEvent_mk]
   have hy:(t++#[({g:=0,fn:=a.frame.fn,pos:=a.frame.place,act:=.mark (.acquire (stA Wg))}:MemOp)])[t.size]?=some {g:=0,fn:=a.frame.fn,pos:=a.frame.place,act:=.mark (.acquire (stA Wg))}:=ai;refine⟨t.size,by rw[e1,act?_of hy],by rw[e1];simp[Trace.g?],by rw[e1];exact⟨0,by simp[Trace.g?],by rw[deaf_old (ak _)];exact h.hcm.deaf0⟩,λi hEl hi=>?_⟩;obtain⟨r,hr,hrs⟩:=h.hcm.rel i hEl hi (by rw[hq i hi];omega);exact⟨r,hr.appOther g_of_ofEvents ae,lt_of_act? hr.act,hrs⟩
  .obtain⟨a',w',es,hgo,⟨rfl,rfl⟩,hg'⟩:=hstep W rl;exact h.idle hgo (.acq hg' hK) hmode ai ae
 |ret hG hK=>
  rcases Goes.cases hG with hstop|⟨m',rfl,hstep⟩
  .obtain⟨_,rfl⟩:=hstop W rl;exact .inl ⟨rfl,hK⟩
  .obtain⟨a',w',es,hgo,⟨rfl,rfl⟩,hg'⟩:=hstep W rl;exact .inr (h.idle hgo (.ret hg' hK) hmode hacq ae)
end
end Go.Gh
namespace Go.Gh
open Go.Conc Go.ConcN
open Go.ConcR (KK WgAt stA smA rd wr mk Payload DC0 g_of_ofEvents)
variable [Payload][qN][rf][wU]
omit [Payload][qN][rf][wU]in
theorem aco(act:MemAct):∃B,act.low B:=by
 cases act with
 |access e=>
  obtain⟨loc,_,_⟩:=e;cases loc with
  |cell a=>exact⟨a.block+1,di _⟩
  |obj r=>exact⟨r+1,di _⟩
  |_=>exact⟨0,trivial⟩
 |mark m=>
  cases m with
  |acquire a=>exact⟨a.block+1,di _⟩
  |release a=>exact⟨a.block+1,di _⟩
  |releaseMerge a=>exact⟨a.block+1,di _⟩
  |read a=>exact⟨a.block+1,di _⟩
  |write a=>exact⟨a.block+1,di _⟩
  |_=>exact⟨0,trivial⟩
 |go _=>exact⟨0,trivial⟩
 |start=>exact⟨0,trivial⟩
 |send c _=>exact⟨c+1,di _⟩
 |sendDone c _=>exact⟨c+1,di _⟩
 |recv c _ _=>exact⟨c+1,di _⟩
 |recvDone c _=>exact⟨c+1,di _⟩
 |close c=>exact⟨c+1,di _⟩
 |recvClosed c=>exact⟨c+1,di _⟩
omit [Payload][qN][rf][wU]in
theorem Dk(t:Trace):∃B,∀op∈t,op.act.low B:=by
 have key:∀l:List MemOp,∃B,∀op∈l,op.act.low B:=by
  intro l
  induction l with
  |nil=>exact⟨0,ai⟩
  |cons x l ih=>
   obtain⟨B,hB⟩:=ih;obtain⟨B',hB'⟩:=aco x.act;refine⟨max B B',λop hop=>?_⟩;rcases dw.1 hop with rfl|hop
   .exact MemAct.low_mono (nD _ _) hB'
   .exact MemAct.low_mono (nG _ _) (hB op hop)
 obtain⟨B,hB⟩:=key t.toList;exact⟨B,λop hop=>hB op (by simpa using hop)⟩
section
variable {P:Program}{ty:TypeId}{Wg C n B:Nat}{M:Nat->Prop}{WP:Nat->Value->World->Prop}{K:List Nat->Goroutine->World->Prop}{N:Nat}{Post:Value->World->Prop}
 {gs:Array Goroutine} {W W':World} {sl:Option (Nat×Nat)} {j:Nat} {D:Nat->WD} {ix:Nat->Nat} {ow:Nat->List Nat} {tag:CTag} {r f0 d0:Nat} {a:Goroutine} {t:Trace} {st sm:Int} {l0 ids:List Nat}
omit [wU][rf]in
theorem WS.running{idx s m d:Nat}{l:List Nat}{g:Goroutine}(h:WS P ty Wg C n B WP idx l s m d g W)(hs:s≠1):g.status=.running:=by
 cases h with
 |comp h=>exact Goes.running (λ_ _ x=>x.1) (gw W l) (Eu W l _) h
 |lib h _ _ _=>exact h.running_of hs
omit [wU][rf]in
theorem MS.ahI(h:MS P ty Wg C n B M WP K ids l0 tag r f0 d0 a W):pend tag<=r:=by cases h<;>simp[pend]
theorem acp(ha:gs[0]?=some a)(hms:MS P ty Wg C n B M WP K ids l0 tag r f0 d0 a W)(hcm:Cm P ty Wg C n B M WP j gs W t D ix ow l0 d0)(hmode:ConcN.Mode j D tag st sm):∃(i:Nat)(g:Goroutine),gs[i]?=some g/\g.status=.running:=by
 have away:∀i,(D i).stage≠1->rf.el<=i:=λi h=>Nat.le_of_not_lt λhlt=>let⟨_,_,h1,_⟩:=hcm.eld i hlt;h h1
 rcases hms.status with⟨hs,_⟩|⟨_,rfl⟩
 .exact⟨0,a,ha,hs⟩
 .cases hmode with
  |opn h1 _ _=>exact h1.elim
  |reg _ _ h3=>
   obtain⟨i,hi,h5⟩:=exists_counted h3;obtain⟨g,hg,hs⟩:=hcm.wk i (away i ae) hi;exact⟨i+1,g,hg,hs.running ae⟩
  |last L _ h2 h3 _=>
   obtain⟨g,hg,hs⟩:=hcm.wk L (away L ae) h2;exact⟨L+1,g,hg,hs.running ae⟩
  |fin h1 _=>exact h1.elim
theorem afk(ha:gs[0]?=some a)(hms:MS P ty Wg C n B M WP K ids l0 tag r f0 d0 a W)(hcm:Cm P ty Wg C n B M WP j gs W t D ix ow l0 d0):∀g∈gs,awake g:=by
 intro g hg tm;obtain⟨i,hi⟩:=nX.1 hg;cases i with
 |zero=>
  rw[ha]at hi;cases hi;rcases hms.status with⟨hs,_⟩|⟨hs,_⟩<;>rw[hs]<;>simp
 |succ i=>
  have hlt:i<j:=by have:=(a_.1 hi).1;rw[hcm.size]at this;omega
  rcases aT i rf.el with he|he
  .obtain⟨g',hg',_,hs⟩:=hcm.eld i he;exact arB
  .obtain⟨g',hg',hs⟩:=hcm.wk i he hlt;exact arB
theorem Cm.afl(h:Cm P ty Wg C n B M WP j gs W t D ix ow l0 d0){i:Nat}(hi:i<rf.el){g g':Goroutine}{fn:FuncId}{pos:String}{es:Array Event}{q:Nat}(hm:∀e∈es,Event.mute e=true)(hq:QuitsD P q (deafBehind (D i).deaf es) g'):
  Cm P ty Wg C n B M WP j ((gs.map (woken P g g' W)).setIfInBounds (i+1) g') W (t++MemOp.ofEvents (i+1) fn pos es) (upd D i ⟨1,q,deafBehind (D i).deaf es⟩) ix ow l0 d0:=by
 have hel:=h.gm.hel;have hbk:∀e∈es,Go.ConcR.Bk Wg e:=λe he=>Go.ConcR.bk_of_mute (hm e he)
 have hne:JU (MemOp.ofEvents (i+1) fn pos es):=λop hop=>by obtain⟨e,he,rfl⟩:=Go.Conc.mem_ofEvents hop;exact .inr (.inr (touch_mute (hm e he)))
 refine⟨jr,λi' hl' hi'=>?_,λi' hl'=>?_,h.past.app hne,h.over.app hne,h.ct.appW h.gm.apart ae ae (aff hbk),h.norel.app (norel_of (norel_of_Bk hbk)),pG,
  OO h.low (ak _) (λop hop=>by obtain⟨e,he,rfl⟩:=Go.Conc.mem_ofEvents hop;exact Bv (touch_mute (hm e he))),apM,λi' hi'=>?_,λi' hl' hi' hst=>?_,h.pay,h.gm,h.out,h.os⟩
 .obtain⟨x,hx,hsx⟩:=h.wk i' hl' hi';refine⟨x,aoF,?_⟩;rw[upd_ne D _ ae];exact hsx
 .by_cases e:i'=i
  .subst e;refine⟨g',get_map_set_same _ _ _ pg,?_⟩;rw[upd_same];exact⟨rfl,hq⟩
  .obtain⟨x,hx,hx1,hx2⟩:=h.eld i' hl';refine⟨x,aoE,?_⟩;rw[upd_ne D _ e];exact⟨hx1,hx2⟩
 .by_cases e:i'=i
  .subst e;rw[Deaf_own,h.deafW i' hi',upd_same]
  .exact arH
 .rw[upd_ne D _ ae]at hst;exact arn
theorem afl(ha:gs[0]?=some a)(hms:MS P ty Wg C n B M WP K ids l0 tag r f0 d0 a W)(hcm:Cm P ty Wg C n B M WP j gs W t D ix ow l0 d0)
  (hwg:WgAt ty Wg W st sm) (hmode:ConcN.Mode j D tag st sm) (hacq:tag=.ret->I_ Wg j t) (hi1:∀i,rf.el<=i->i<j->ix i∈ids) (hi2:∀x∈ids,∃i,rf.el<=i/\i<j/\ix i=x) (hN:j+r=N)
  {i:Nat} (hi:i<rf.el) {g:Goroutine} (hg:gs[i+1]?=some g) (hrun:g.status=.running):
  ∃m₁ ops μ',runT P (crowd gs W sl) (i+1)=(.next m₁,ops)/\Lt2 μ' (phi N (Vc j D) tag+Ssum j D,f0+2*Fsum j D)/\Iv P ty Wg C n B M WP K N μ' m₁ (t++ops):=by
 obtain⟨x,hx,hst,hq⟩:=hcm.eld i hi;obtain rfl:g=x:=by rw[hg]at hx;exact d_ hx
 have hij:i<j:=by have:=hcm.gm.hel;omega
 cases hf:(D i).fuel with
 |zero=>rw[hf]at hq;rw[hq.1]at hrun;cases hrun
 |succ q=>
  rw[hf]at hq;rcases hq with⟨h,_⟩|⟨_,g',es,hm,hstep,hq'⟩
  .rw[h]at hrun;cases hrun
  obtain⟨tag',f',Gq,hf',htag,_⟩:=hms.wokenBy g g';have hrunT:=runT_crowd_go (P:=P) (sl:=sl) (i:=i+1) hg (by simpa using hstep W);have e1:=sumTo_upd D (⟨1,q,deafBehind (D i).deaf es⟩:WD) cnt hij;have e2:=sumTo_upd D (⟨1,q,deafBehind (D i).deaf es⟩:WD) WD.stage hij;have e3:=sumTo_upd D (⟨1,q,deafBehind (D i).deaf es⟩:WD) WD.fuel hij
  have hmode':ConcN.Mode j (upd D i ⟨1,q,deafBehind (D i).deaf es⟩) tag st sm:=by have:=hmode.same (i:=i) q (deafBehind (D i).deaf es);rwa[hst]at this
  refine⟨_,_,(phi N (Vc j (upd D i ⟨1,q,deafBehind (D i).deaf es⟩)) tag'+Ssum j (upd D i ⟨1,q,deafBehind (D i).deaf es⟩),f'+2*Fsum j (upd D i ⟨1,q,deafBehind (D i).deaf es⟩)),hrunT,?_,
   _,W,sl,j,upd D i ⟨1,q,deafBehind (D i).deaf es⟩,ix,ow,tag',r,f',d0,woken P g g' W a,st,sm,l0,ids,rfl,apB,Gq,hcm.afl hi hm hq',hwg,hmode'.retag htag,λe=>?_,hi1,hi2,hN,rfl⟩
  .rw[phi_retag N _ htag];simp only[Vc,Ssum,Fsum]at*;have ec:cnt (⟨1,q,deafBehind (D i).deaf es⟩:WD)=cnt (D i):=by simp only[cnt,hst]
   have ev:(sumTo j λa=>cnt (upd D i ⟨1,q,deafBehind (D i).deaf es⟩ a))=sumTo j λa=>cnt (D a):=ae
   have es':(sumTo j λa=>(upd D i ⟨1,q,deafBehind (D i).deaf es⟩ a).stage)=sumTo j λa=>(D a).stage:=ae
   rw[ev,es'];refine Prod.Lex.right _ ?_;omega
  .have e':tag=.ret:=by
    rcases htag with rfl|⟨_,rfl⟩
    .exact e
    .cases e
   exact(hacq e').app λi' r hl _ hr=>hr.appOther g_of_ofEvents ae
theorem acr(hcm:Cm P ty Wg C n B M WP j gs W t D ix ow l0 0)(hacq:I_ Wg j t){B':Nat}(hB:∀op∈t,op.act.low B'):Past (Ef Wg) B' t:=by
 obtain⟨q,h1,h2,h3,h4⟩:=hacq
 have hg:∀i g,t.g? i=some g->rf.el<g->∃r,RelBy (stA Wg) t g r/\r<q/\rf.ts<=r:=by intro i g hgi hne;obtain⟨op,ho,rfl⟩:=bU.1 hgi;have:=hcm.ct.gs i op ho;have:=h4 (op.g-1) ae ae;rwa[show op.g-1+1=op.g by omega]at this
 have edge:∀{g r:Nat},RelBy (stA Wg) t g r->r<q->rf.ts<=r->HappensBefore t r q:=λhr hrq hrs=>.single (.inr ⟨.marked hrq (.inr hr.act) h1 (λk hk _=>hcm.norel k ae),hr.heard,h3⟩)
 have alm:t.HandedOver:=by
  intro i g hgi hne hc;rcases aT rf.el g with he|he
  .obtain⟨r,hr,hrq,hrs⟩:=hg i g hgi he;have hle:i<=r:=Nat.le_of_not_lt λhlt=>hr.after i hlt hgi hc
   rcases aT i r with hlt|hge
   .exact⟨q,h2,.trans (.single (.inl ⟨hlt,g,hgi,hr.g⟩)) (edge hr hrq hrs)⟩
   .obtain rfl:i=r:=ae;exact⟨q,h2,edge hr hrq hrs⟩
  .exact hcm.over i g hgi hne he hc
 have hq0:∃z,t[q]?=some z/\z.g=0:=by obtain⟨z,hz,hz'⟩:=bU.1 h2;exact⟨z,hz,hz'⟩
 refine⟨hcm.ct.nr,λi x hx hm=>?_,alm,hcm.deaf0,hB⟩;obtain⟨op,ho,hox⟩:=touch_of hx;by_cases hz:op.g=0
 .exact .inl (by have:=knows_own ho;rwa[hz]at this)
 .rcases aT rf.el op.g with he|he
  .obtain⟨r,hr,hrq,hrs⟩:=hg i op.g aoi he;obtain⟨z,hz1,hz2⟩:=hq0;rcases aT r i with hlt|hge
   .have hnc:=hr.after i hlt aoi;refine .inr ?_
    have hat:x.kind=.atomic:=by
     by_cases hk:x.kind=.atomic
     .exact hk
     .exact absurd ⟨x,hx,hm,.inl hk⟩ hnc
    exact⟨.inl ((hcm.low op (dX ho) x hox).2.1 he hat),hat⟩
   .refine .inl ⟨q,z,hz1,hz2,.inr ?_⟩;rcases aT i r with hlt|hge'
    .exact .trans (.single (.inl ⟨hlt,op.g,aoi,hr.g⟩)) (edge hr hrq hrs)
    .obtain rfl:i=r:=ae;exact edge hr hrq hrs
  .exact hcm.past i op x ho hox hm hz he
theorem U_(hcm:Cm P ty Wg C n B M WP j gs W t D ix ow l0 0)(hq:AllQuit j D):Leavers P t gs (λi=>(D (i-1)).fuel):=by
 refine⟨λi g hi hg=>?_,λi hi=>?_⟩
 .obtain⟨i',rfl⟩:∃i',i=i'+1:=⟨i-1,ae⟩;have hlt:i'<j:=by have:=(a_.1 hg).1;rw[hcm.size]at this;omega
  rw[hcm.deafW i' hlt];rcases aT i' rf.el with he|he
  .obtain⟨g',hg',_,hs'⟩:=hcm.eld i' he;rw[hg]at hg';cases hg';exact hs'
  .obtain⟨g',hg',hs'⟩:=hcm.wk i' he hlt;rw[hg]at hg';cases hg';rw[hq i' hlt]at hs';exact hs'.quits
 .exact Deaf_absent λa op ha e=>by have:=hcm.ct.gs a op ha;rw[hcm.size]at hi;omega
structure Gs(Shun:Loc->Prop)(sz e:Nat)(t:Trace):Prop where
 quiet:Quiet Shun t
 gs:∀op∈t,op.g<=e
 low:∀op∈t,∀x,op.act.touch?=some x->(∀ad,x.loc=.cell ad->ad.block<sz)/\(op.g≠0->x.loc.isMemory=true)
theorem acs(hcm:Cm P ty Wg C n B M WP j gs W t D ix ow l0 0):Gs (Ef Wg) W.heap.size j t:=
 ⟨hcm.ct.quiet,λop hop=>let⟨i,hi⟩:=nX.1 hop;hcm.ct.gs i op hi,λop hop x hx=>⟨(hcm.low op hop x hx).1,(hcm.low op hop x hx).2.2⟩⟩
theorem TM{q:Nat->Nat}{B₀:Nat}(ha:gs[0]?=some a)(hsz:gs.size=rf.el+1)(hL:Leavers P t gs q)(hP:Past (Ef Wg) B₀ t)(hT:Gs (Ef Wg) W.heap.size rf.el t)(hts:t.size=rf.ts)
  (hold:∀b,qN.old b->b<B/\b≠C) (hW:Wg<B) (hC:C<B) (hCW:C≠Wg) (hB:B<=W.heap.size) (hwg:WgAt ty Wg W 0 0) (hpay:PayAt C n W) (hsp:Sp P ty Wg C n B M WP K N [] a (gw W []))
  (ho:W.output=wU.o0) (hos:W.os=wU.os0):
  ∃μ,Iv P ty Wg C n B M WP K (rf.el+N) μ (crowd gs W sl) t:=by
 have kn:∀l,¬Ef Wg l->Perm t 0 l:=λl hl i x hx e=>by
  obtain⟨op,ho,hox⟩:=touch_of hx;by_cases h0:op.g=0
  .have:=knows_own ho;rwa[h0]at this
  .rcases hP.known i x hx ((hT.low op (dX ho) x hox).2 h0)with h|⟨h,_⟩
   .exact h
   .exact absurd (e▸h) hl
 have gm:Gm Wg C B M rf.el (λ_=>0) (λ_=>[]) [] W.heap.size:=⟨hW,hC,hCW,hB,λ_ _=>ai,ai,λ_ _ _ _ _ h=>absurd h ai,λ_ _ _ h=>absurd h ai,λ_ _ h _ h'=>absurd h ae,λ_ h h'=>absurd h ae,ak _,hold⟩
 have ct:CT (Ef Wg) (Rl C rf.el (λ_=>0) (λ_=>[])) (RdF Wg C B) t rf.el:=
  ⟨hT.quiet,λk _ kj l hl=>absurd hl.1 ae,λk _ kj l hl=>absurd hl.1 ae,λl hs _=>kn l hs,λl hs _=>.of (kn l hs),hP.clean,
   λi op hi=>hT.gs op (dX hi)⟩
 have get:∀i,i<rf.el->∃g,gs[i+1]?=some g:=λi hi=>⟨gs[i+1]' ae,kN ae⟩
 have cm:Cm P ty Wg C n B M WP rf.el gs W t (λi=>⟨1,q (i+1),Deaf t (i+1)⟩) (λ_=>0) (λ_=>[]) [] 0:=
  ⟨hsz,λi h h'=>absurd h ae,λi hi=>let⟨g,hg⟩:=get i hi;⟨g,hg,rfl,hL.old (i+1) g ae hg⟩,λi op x hi hx hm h0 _=>(hP.known i x (by rw[touchAt_of hi];exact hx) hm),λi g hg hne _ hc=>hP.over i g hg hne hc,ct,
   λi hi e=>by obtain⟨op,hop,_⟩:=bU.1 e;have:=lt_size_of_getElem? hop;omega,dS hts.symm,
   λop hop x hx=>⟨(hT.low op hop x hx).1,λh=>by have:=hT.gs op hop;omega,(hT.low op hop x hx).2⟩,hP.hears,λ_ _=>rfl,λi h h'=>absurd h ae,hpay,gm,ho,hos⟩
 have hV:Vc rf.el (λi=>(⟨1,q (i+1),Deaf t (i+1)⟩:WD))=0:=by
  have:∀n,(sumTo n λa=>cnt (⟨1,q (a+1),Deaf t (a+1)⟩:WD))=0:=λn=>by
   induction n with
   |zero=>rfl
   |succ n ih=>simp only[sumTo,ih];rfl
  exact this _
 have md:∀tag,isOpen tag->pend tag=0->(∀vs,tag≠.w2 vs)->ConcN.Mode rf.el (λi=>(⟨1,q (i+1),Deaf t (i+1)⟩:WD)) tag 0 0:=λtag h1 h2 h3=>by have:=ConcN.Mode.opn (j:=rf.el) (D:=λi=>(⟨1,q (i+1),Deaf t (i+1)⟩:WD)) h1 (λ_ _=>ai) (λvs e=>absurd e (h3 vs));rw[h2,hV]at this;exact aqb
 cases N with
 |zero=>
  obtain⟨m,hm⟩:=hsp;exact⟨_,gs,W,sl,rf.el,_,_,_,.sp 0 7,0,m,0,a,0,0,[],[],rfl,ha,.c0 hm,cm,hwg,md _ trivial rfl ai,ai,λ_ h h'=>absurd h ae,ai,rfl,rfl⟩
 |succ r=>
  obtain⟨m,hm⟩:=hsp;exact⟨_,gs,W,sl,rf.el,_,_,_,.sp (r+1) 7,r+1,m,0,a,0,0,[],[],rfl,ha,.c1 hm,cm,hwg,md _ trivial rfl ai,ai,λ_ h h'=>absurd h ae,ai,rfl,rfl⟩
end
#print axioms TM

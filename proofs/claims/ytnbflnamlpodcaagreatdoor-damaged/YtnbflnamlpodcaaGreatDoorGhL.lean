import Derived.Test.YtnbflnamlpodcaaGreatDoorGhD
import Derived.Test.YtnbflnamlpodcaaGreatDoorGhE
set_option maxHeartbeats 1600000
namespace Go.Gh
open Go.Conc Go.ConcN
open Go.ConcR (KK WgAt stA smA rd wr mk Payload DC0 again_blocked)
variable [Payload][qV]
def Z8(_:Nat)(_:Loc):Prop:=False
section
variable (P:Program)(ty:TypeId)(Wg C n B:Nat)(M:Nat->Prop)(WP:Nat->Value->World->Prop)(K:List Nat->Goroutine->World->Prop)
def aoK(idx:Nat)(g:Goroutine)(w:World):Prop:=
 g.status=.running/\∃v,WP idx v w/\Has C idx v w/\∀W,WgLive ty Wg W->Has C idx v W->Goes P false (RW ty Wg C n 0 (idx+1-1)) (DWs Wg Z8 Z8 C n (idx+1)) (AtR0 P ty Wg C n 0 (idx+1) v) 23 g W
def Wk(idx m:Nat)(g:Goroutine)(w:World):Prop:=Goes P false (Ro Wg C n B (· =idx)) (Dg Wg C n B (· =idx)) (aoK P ty Wg C n WP idx) m g w
def alp(ids:List Nat)(g:Goroutine)(w:World):Prop:=g.status=.running/\∃gT,am4 P ty Wg gT g/\K ids gT w
def AtGo(Next:List Nat->Goroutine->World->Prop)(ids:List Nat)(g:Goroutine)(w:World):Prop:=
 g.status=.running/\∃g' child idx l,stepG P true g w=.spawn g' child w #[]/\child.status=.running/\idx∉ids/\M idx/\(∀b∈l,qO w b)/\
  (∃m,Wk P ty Wg C n B WP idx m child (w.out (book w.heap.size l)))/\∀l',(∀b,b∈l'↔qO w b/\b∉l)->Next (idx::ids) g' (w.out (book w.heap.size l'))
def aeG(Next:List Nat->Goroutine->World->Prop)(ids:List Nat)(g:Goroutine)(w:World):Prop:=
 g.status=.running/\∃gT mm,aqp P ty Wg gT g/\(Goes P true (Ro Wg C n B (λi=>¬M i)) (Dg Wg C n B (λi=>¬M i))) (AtGo P ty Wg C n B M WP Next ids) mm gT w
def Sp:Nat->List Nat->Goroutine->World->Prop
 |0,ids,g,w=>∃m,(Goes P true (Ro Wg C n B (λi=>¬M i)) (Dg Wg C n B (λi=>¬M i))) (alp P ty Wg K ids) m g w
 |r+1,ids,g,w=>∃m,(Goes P true (Ro Wg C n B (λi=>¬M i)) (Dg Wg C n B (λi=>¬M i))) (aeG P ty Wg C n B M WP (Sp r) ids) m g w
inductive WS (idx:Nat) (l:List Nat):Nat->Nat->Nat->Goroutine->World->Prop
 |comp {m:Nat} {g:Goroutine} {W:World}:Wk P ty Wg C n B WP idx m g (gw W l)->WS idx l 7 (m+24) 0 g W
 |lib {v:Value} {s m d:Nat} {g:Goroutine} {W:World}:WSit P ty Wg C n Z8 Z8 0 (idx+1) v s m d g W->(s=7->m<=23)->WP idx v (gw W l)->(s<=6->Has C idx v W)->WS idx l s m d g W
inductive MS (ids:List Nat) (l:List Nat):CTag->Nat->Nat->Nat->Goroutine->World->Prop
 |c1 {r m:Nat} {g:Goroutine} {W:World}:(Goes P true (Ro Wg C n B (λi=>¬M i)) (Dg Wg C n B (λi=>¬M i))) (aeG P ty Wg C n B M WP (Sp P ty Wg C n B M WP K r) ids) m g (gw W l)->MS ids l (.sp (r+1) 7) (r+1) m 0 g W
 |kd1 {r m mm:Nat} {g gT:Goroutine} {W:World}:(Goes P true (RL ty Wg) DC0) (AKd P ty Wg gT) m g W->(Goes P true (Ro Wg C n B (λi=>¬M i)) (Dg Wg C n B (λi=>¬M i))) ((AtGo P ty Wg C n B M WP) (Sp P ty Wg C n B M WP K r) ids) mm gT (gw W l)->MS ids l (.sp (r+1) 6) (r+1) m 0 g W
 |a1 {r m mm:Nat} {g gT:Goroutine} {W:World}:(Goes P true (RL ty Wg) DC0) (AA1 P ty Wg gT) m g W->(Goes P true (Ro Wg C n B (λi=>¬M i)) (Dg Wg C n B (λi=>¬M i))) ((AtGo P ty Wg C n B M WP) (Sp P ty Wg C n B M WP K r) ids) mm gT (gw W l)->MS ids l (.sp (r+1) 5) (r+1) m 1 g W
 |rd1 {r m mm:Nat} {g gT:Goroutine} {W:World}:(Goes P true (RL ty Wg) DC0) (ARd P ty Wg gT) m g W->(Goes P true (Ro Wg C n B (λi=>¬M i)) (Dg Wg C n B (λi=>¬M i))) ((AtGo P ty Wg C n B M WP) (Sp P ty Wg C n B M WP K r) ids) mm gT (gw W l)->MS ids l (.sp (r+1) 3) (r+1) m 1 g W
 |ke1 {r m mm:Nat} {g gT:Goroutine} {W:World}:(Goes P true (RL ty Wg) DC0) (AKe P ty Wg gT) m g W->(Goes P true (Ro Wg C n B (λi=>¬M i)) (Dg Wg C n B (λi=>¬M i))) ((AtGo P ty Wg C n B M WP) (Sp P ty Wg C n B M WP K r) ids) mm gT (gw W l)->MS ids l (.sp (r+1) 2) (r+1) m 1 g W
 |en1 {r m mm:Nat} {g gT:Goroutine} {W:World}:(Goes P true (RL ty Wg) DC0) (ai_ gT) m g W->(Goes P true (Ro Wg C n B (λi=>¬M i)) (Dg Wg C n B (λi=>¬M i))) ((AtGo P ty Wg C n B M WP) (Sp P ty Wg C n B M WP K r) ids) mm gT (gw W l)->MS ids l (.sp (r+1) 1) (r+1) (m+mm+1) 0 g W
 |c2 {r m:Nat} {g:Goroutine} {W:World}:(Goes P true (Ro Wg C n B (λi=>¬M i)) (Dg Wg C n B (λi=>¬M i))) ((AtGo P ty Wg C n B M WP) (Sp P ty Wg C n B M WP K r) ids) m g (gw W l)->MS ids l (.sp (r+1) 1) (r+1) m 0 g W
 |c0 {m:Nat} {g:Goroutine} {W:World}:(Goes P true (Ro Wg C n B (λi=>¬M i)) (Dg Wg C n B (λi=>¬M i))) (alp P ty Wg K ids) m g (gw W l)->MS ids l (.sp 0 7) 0 m 0 g W
 |kd {m:Nat} {g gT:Goroutine} {An:Goroutine->World->Prop} {W:World}:(∀g w,An g w->g.status=.running)->(∀g w,An g w->∃m,(Goes P true (RL ty Wg) DC0) (WW1 P ty Wg gT An) m g w)->(Goes P true (RL ty Wg) DC0) (WKd P ty Wg An) m g W->K ids gT (gw W l)->MS ids l .kd 0 m 0 g W
 |anch {m:Nat} {g gT:Goroutine} {An:Goroutine->World->Prop} {W:World}:(∀g w,An g w->g.status=.running)->(∀g w,An g w->∃m,(Goes P true (RL ty Wg) DC0) (WW1 P ty Wg gT An) m g w)->(Goes P true (RL ty Wg) DC0) An m g W->K ids gT (gw W l)->MS ids l .anch 0 m 1 g W
 |w1 {m:Nat} {g gT:Goroutine} {An:Goroutine->World->Prop} {W:World}:(∀g w,An g w->g.status=.running)->(∀g w,An g w->∃m,(Goes P true (RL ty Wg) DC0) (WW1 P ty Wg gT An) m g w)->(Goes P true (RL ty Wg) DC0) (WW1 P ty Wg gT An) m g W->K ids gT (gw W l)->MS ids l .w1 0 m 1 g W
 |w2 {vs m:Nat} {g gT:Goroutine} {An:Goroutine->World->Prop} {W:World}:(∀g w,An g w->g.status=.running)->(∀g w,An g w->∃m,(Goes P true (RL ty Wg) DC0) (WW1 P ty Wg gT An) m g w)->(Goes P true (RL ty Wg) DC0) (WW2 P ty Wg gT An vs) m g W->K ids gT (gw W l)->MS ids l (.w2 vs) 0 m 1 g W
 |wr {m:Nat} {g gT:Goroutine} {W:World}:(Goes P true (RL ty Wg) DC0) (WWr P ty Wg gT) m g W->K ids gT (gw W l)->MS ids l .w3 0 (m+62) 1 g W
 |w3 {m:Nat} {g gT:Goroutine} {W:World}:(Goes P true (RL ty Wg) DC0) (WW3 P ty Wg gT) m g W->K ids gT (gw W l)->MS ids l .w3 0 (m+1) 1 g W
 |blk {g gT:Goroutine} {W:World}:(∀W₁,RL ty Wg W W₁->WW3 P ty Wg gT g W₁)->K ids gT (gw W l)->MS ids l .blk 0 0 1 {g with status:=.blocked} W
 |w4 {m:Nat} {g gT:Goroutine} {W:World}:(Goes P true (RL ty Wg) DC0) (WW4 P ty Wg gT) m g W->K ids gT (gw W l)->MS ids l .w4 0 m 1 g W
 |ke {m:Nat} {g gT:Goroutine} {W:World}:(Goes P true (RL ty Wg) DC0) (WKe P ty Wg gT) m g W->K ids gT (gw W l)->MS ids l .ke 0 m 1 g W
 |acq {m:Nat} {g gT:Goroutine} {W:World}:(Goes P true (RL ty Wg) DC0) (aqr P ty Wg gT) m g W->K ids gT (gw W l)->MS ids l .acq 0 m 0 g W
 |ret {m:Nat} {g gT:Goroutine} {W:World}:(Goes P true (RL ty Wg) DC0) (ai_ gT) m g W->K ids gT (gw W l)->MS ids l .ret 0 m 0 g W
end
omit [Payload][qV]in
theorem BI(ty:TypeId)(Wg:Nat)(w:World):RL ty Wg w w:=id
omit [Payload][qV]in
theorem ajb(ty:TypeId)(Wg:Nat):∀a b c,RL ty Wg a b->RL ty Wg b c->RL ty Wg a c:=λ_ _ _ h h'=>h'∘h
section
variable {P:Program}{ty:TypeId}{Wg C n B:Nat}{M:Nat->Prop}{WP:Nat->Value->World->Prop}{K:List Nat->Goroutine->World->Prop}
 {lo l ids:List Nat} {Cm:Nat->Prop} {W W':World} {idx s m d r f:Nat} {g:Goroutine} {tag:CTag}
theorem WS.rely(hWP:∀v w w₁,Ro Wg C n B (λ_=>False) w w₁->WP idx v w->WP idx v w₁)(h:WS P ty Wg C n B WP idx l s m d g W)(hc:P8 ty Wg C n lo Cm W W')(hB:B<=W.heap.size)(hlo:∀b∈lo,B<=b)
  (hl:∀b∈l,b∉lo/\b<W.heap.size/\b≠C/\b≠Wg) (hCm:¬Cm idx):WS P ty Wg C n B WP idx l s m d g W':=by
 have JU:Ro Wg C n B (· =idx) (gw W l) (gw W' l):=hc.ro hB hlo hl (λi hi=>by subst hi;exact hCm);cases h with
 |comp h=>
  have tr:∀a b c,Ro Wg C n B (· =idx) a b->Ro Wg C n B (· =idx) b c->Ro Wg C n B (· =idx) a c:=λ_ _ _ a b=>Ro.trans a b
  exact .comp (bK tr h JU)
 |lib h1 h2 h3 h4=>exact .lib (h1.rely ⟨λb hb=>ae,hc.live,hc.pay,by simpa using hc.cells idx hCm⟩) h2 (hWP _ _ _ (hc.ro hB hlo hl (λ_=>False.elim)) h3) (λh=>(hc.cells idx hCm).trans (h4 h))
theorem WS.status(h:WS P ty Wg C n B WP idx l s m d g W):g.status=.running\/g.status=.finished:=by
 cases h with
 |comp h=>
  refine .inl (Goes.running (λ_ _ x=>x.1) (gw W l) ⟨ak _,rfl,rfl,?_,λb=>?_,λ_ _ _ _=>rfl,λ_ _=>rfl,λ_ _=>rfl,id⟩ h)
  .unfold gw;rw[xA];rfl
  .rw[yK];unfold gw;rw[vH]
 |lib h1 _ _ _=>exact h1.status
theorem WS.woken(h:WS P ty Wg C n B WP idx l s m d g W)(a a':Goroutine)(w':World):woken P a a' w' g=g:=by
 unfold Go.Conc.woken;split
 .exact again_running _ h.status
 .rfl
theorem WS.quits(h:WS P ty Wg C n B WP idx l 1 m d g W):QuitsD P m d g:=by
 cases h with
 |lib h1 _ _ _=>exact h1.quits rfl
omit [qV]in
theorem He(W:World)(l:List Nat)(Cl:Nat->Prop):Ro Wg C n B Cl (gw W l) (gw W l):=by
 refine⟨ak _,rfl,rfl,?_,λb=>?_,λ_ _ _ _=>rfl,λ_ _=>rfl,λ_ _=>rfl,id⟩
 .unfold gw;rw[xA];rfl
 .rw[yK];unfold gw;rw[vH]
theorem MS.rely(hK:∀ids g w w₁,Ro Wg C n B (λi=>¬M i) w w₁->K ids g w->K ids g w₁)(h:MS P ty Wg C n B M WP K ids l tag r f d g W)(hc:P8 ty Wg C n lo Cm W W')(hB:B<=W.heap.size)(hlo:∀b∈lo,B<=b)
  (hl:∀b∈l,b∉lo/\b<W.heap.size/\b≠C/\b≠Wg) (hCm:∀i,Cm i->M i):MS P ty Wg C n B M WP K ids l tag r f d g W':=by
 have JU:Ro Wg C n B (λi=>¬M i) (gw W l) (gw W' l):=hc.ro hB hlo hl (λi hi hm=>hi (hCm i hm));have tr:∀a b c,Ro Wg C n B (λi=>¬M i) a b->Ro Wg C n B (λi=>¬M i) b c->Ro Wg C n B (λi=>¬M i) a c:=λ_ _ _ a b=>Ro.trans a b
 have Yq:RL ty Wg W W':=hc.live;have tl:=ajb ty Wg;cases h with
 |c1 h=>exact .c1 (bK tr h JU)
 |kd1 h h'=>exact .kd1 (bK tl h Yq) (bK tr h' JU)
 |a1 h h'=>exact .a1 (bK tl h Yq) (bK tr h' JU)
 |rd1 h h'=>exact .rd1 (bK tl h Yq) (bK tr h' JU)
 |ke1 h h'=>exact .ke1 (bK tl h Yq) (bK tr h' JU)
 |en1 h h'=>exact .en1 (bK tl h Yq) (bK tr h' JU)
 |c2 h=>exact .c2 (bK tr h JU)
 |c0 h=>exact .c0 (bK tr h JU)
 |kd a b h k=>exact .kd a b (bK tl h Yq) (hK _ _ _ _ JU k)
 |anch a b h k=>exact .anch a b (bK tl h Yq) (hK _ _ _ _ JU k)
 |w1 a b h k=>exact .w1 a b (bK tl h Yq) (hK _ _ _ _ JU k)
 |w2 a b h k=>exact .w2 a b (bK tl h Yq) (hK _ _ _ _ JU k)
 |wr h k=>exact .wr (bK tl h Yq) (hK _ _ _ _ JU k)
 |w3 h k=>exact .w3 (bK tl h Yq) (hK _ _ _ _ JU k)
 |blk h k=>exact .blk (λW₂ h₂=>h W₂ (h₂∘Yq)) (hK _ _ _ _ JU k)
 |w4 h k=>exact .w4 (bK tl h Yq) (hK _ _ _ _ JU k)
 |ke h k=>exact .ke (bK tl h Yq) (hK _ _ _ _ JU k)
 |acq h k=>exact .acq (bK tl h Yq) (hK _ _ _ _ JU k)
 |ret h k=>exact .ret (bK tl h Yq) (hK _ _ _ _ JU k)
theorem MS.status(h:MS P ty Wg C n B M WP K ids l tag r f d g W):(g.status=.running/\tag≠.blk)\/(g.status=.blocked/\tag=.blk):=by
 have r0:=He (Wg:=Wg) (C:=C) (n:=n) (B:=B) W l (λi=>¬M i);have rl:=BI ty Wg W;cases h with
 |c1 h=>exact .inl ⟨Goes.running (λ_ _ x=>x.1) _ r0 h,ai⟩
 |kd1 h _=>exact .inl ⟨Goes.running (λ_ _ x=>x.1) _ rl h,ai⟩
 |a1 h _=>exact .inl ⟨Goes.running (λ_ _ x=>x.1) _ rl h,ai⟩
 |rd1 h _=>exact .inl ⟨Goes.running (λ_ _ x=>x.1) _ rl h,ai⟩
 |ke1 h _=>exact .inl ⟨Goes.running (λ_ _ x=>x.1) _ rl h,ai⟩
 |en1 h _=>exact .inl ⟨Goes.running (λ_ _ x=>x.1) _ rl h,ai⟩
 |c2 h=>exact .inl ⟨Goes.running (λ_ _ x=>x.1) _ r0 h,ai⟩
 |c0 h=>exact .inl ⟨Goes.running (λ_ _ x=>x.1) _ r0 h,ai⟩
 |kd _ _ h _=>exact .inl ⟨Goes.running (λ_ _ x=>x.1) _ rl h,ai⟩
 |anch hr _ h _=>exact .inl ⟨Goes.running hr _ rl h,ai⟩
 |w1 _ _ h _=>exact .inl ⟨Goes.running (λ_ _ x=>x.1) _ rl h,ai⟩
 |w2 _ _ h _=>exact .inl ⟨Goes.running (λ_ _ x=>x.1) _ rl h,ai⟩
 |wr h _=>exact .inl ⟨Goes.running (λ_ _ x=>x.1) _ rl h,ai⟩
 |w3 h _=>exact .inl ⟨Goes.running (λ_ _ x=>x.1) _ rl h,ai⟩
 |blk h _=>exact .inr ⟨rfl,rfl⟩
 |w4 h _=>exact .inl ⟨Goes.running (λ_ _ x=>x.1) _ rl h,ai⟩
 |ke h _=>exact .inl ⟨Goes.running (λ_ _ x=>x.1) _ rl h,ai⟩
 |acq h _=>exact .inl ⟨Goes.running (λ_ _ x=>x.1) _ rl h,ai⟩
 |ret h _=>exact .inl ⟨Goes.running (λ_ _ x=>x.1) _ rl h,ai⟩
theorem MS.wokenBy(h:MS P ty Wg C n B M WP K ids l tag r f d g W)(a a':Goroutine):
  ∃tag' f',MS P ty Wg C n B M WP K ids l tag' r f' d (Go.Conc.woken P a a' W g) W/\f'<=f+1/\(tag'=tag\/(tag=.blk/\tag'=.w3))/\(mayWake P a=true->a'.status=.running->tag'≠.blk):=by
 unfold Go.Conc.woken;split
 .rcases h.status with⟨hs,hne⟩|⟨_,rfl⟩
  .exact⟨tag,f,by rw[again_running _ (.inl hs)];exact h,ae,.inl rfl,λ_ _=>hne⟩
  .cases h with
   |blk hb k=>
    have h3:=hb W (BI ty Wg W);exact⟨.w3,0+1,by rw[again_blocked h3.1 h3.2.1];exact .w3 (bI hb) k,ae,.inr ⟨rfl,rfl⟩,λ_ _=>ai⟩
 .rename_i hc;exact⟨tag,f,h,ae,.inl rfl,λh1 h2=>absurd (by simp[h1,h2]) hc⟩
end
end Go.Gh
namespace Go.Gh
open Go.Conc Go.ConcN
open Go.ConcR (KK WgAt stA smA rd wr mk Payload DC0 g_of_ofEvents)
variable [qV][rQ]
def GV(Wg:Nat)(l:Loc):Prop:=ShN Wg l\/∃a:Addr,l=.cell a/\qV.old a.block
def Wl(C j:Nat)(ix:Nat->Nat)(ow:Nat->List Nat)(k:Nat)(l:Loc):Prop:=rQ.el<k/\k<=j/\∃a:Addr,l=.cell a/\(a.block∈ow (k-1)\/a=⟨C,ix (k-1),none⟩)
def RdF(Wg C B:Nat)(k:Nat)(l:Loc):Prop:=rQ.el<k/\∃a:Addr,l=.cell a/\a.block<B/\a.block≠Wg/\a.block≠C/\¬qV.old a.block
class yw where
 o0:Array (Nat×ByteArray)
 os0:Os
structure Gm(Wg C B:Nat)(M:Nat->Prop)(j:Nat)(ix:Nat->Nat)(ow:Nat->List Nat)(l0:List Nat)(sz:Nat):Prop where
 hW:Wg<B
 hC:C<B
 hCW:C≠Wg
 hB:B<=sz
 own:∀i,i<j->∀b∈ow i,B<=b/\b<sz
 C_:∀b∈l0,B<=b/\b<sz
 dis:∀i i' b,i<j->i'<j->b∈ow i->b∈ow i'->i=i'
 aa7:∀i b,i<j->b∈ow i->b∉l0
 ixd:∀i i',rQ.el<=i->rQ.el<=i'->i<j->i'<j->ix i=ix i'->i=i'
 ixM:∀i,rQ.el<=i->i<j->M (ix i)
 hel:rQ.el<=j
 old:∀b,qV.old b->b<B/\b≠C
section
variable {Wg C B:Nat}{M:Nat->Prop}{j:Nat}{ix:Nat->Nat}{ow:Nat->List Nat}{l0:List Nat}{sz sz':Nat}
theorem Gm.apart(h:Gm Wg C B M j ix ow l0 sz):Apart (GV Wg) (Wl C j ix ow) (RdF Wg C B):=by
 have hC:=h.hC;refine⟨λk k' l ⟨h1,h2,a,e,x⟩ ⟨h1',h2',a',e',x'⟩=>?_,λk k' l ⟨h1,h2,a,e,x⟩ ⟨_,a',e',y1,y2,y3,_⟩=>?_,λk l ⟨h1,h2,a,e,x⟩ hsh=>?_,λk l ⟨_,a,e,y1,y2,y3,y4⟩ hsh=>?_⟩
 .obtain rfl:a=a':=lG;rcases x with x|x<;>rcases x' with x'|x'
  .have:=h.dis (k-1) (k'-1) _ ae ae x x';omega
  .have:=h.own (k-1) ae _ x;rw[x']at this;exact awN
  .have:=h.own (k'-1) ae _ x';rw[x]at this;exact awN
  .rw[x]at x';have:=h.ixd (k-1) (k'-1) ae ae ae ae (by injection x');omega
 .obtain rfl:a=a':=lG;rcases x with x|x
  .have:=h.own (k-1) ae _ x;omega
  .rw[x]at y3;exact y3 rfl
 .obtain⟨a',e',y⟩|⟨a',e',y⟩:=hsh
  .obtain rfl:a=a':=lG;have:=h.hW;rcases x with x|x
   .have:=h.own (k-1) ae _ x;omega
   .rw[x]at y;exact h.hCW y
  .obtain rfl:a=a':=lG;have hy:=h.old _ y;rcases x with x|x
   .have:=h.own (k-1) ae _ x;omega
   .rw[x]at hy;exact hy.2 rfl
 .obtain⟨a',e',y⟩|⟨a',e',y⟩:=hsh
  .obtain rfl:a=a':=lG;exact y2 y
  .obtain rfl:a=a':=lG;exact y4 y
theorem Gm.aqs(h:Gm Wg C B M j ix ow l0 sz)(hs:sz<=sz'){i:Nat}(hi:i<j):Gm Wg C B M j ix (upd ow i (ow i++fresh sz sz')) l0 sz':=by
 have hB:=h.hB
 have mem:∀a b,a<j->b∈upd ow i (ow i++fresh sz sz') a->(b∈ow a/\b<sz)\/(a=i/\sz<=b/\b<sz'):=by
  intro a b ha hb;by_cases e:a=i
  .subst e;rw[upd_same,kJ,D8]at hb;exact hb.elim (λx=>.inl ⟨x,(h.own a ha b x).2⟩) λx=>.inr ⟨rfl,x⟩
  .rw[upd_ne ow _ e]at hb;exact .inl ⟨hb,(h.own a ha b hb).2⟩
 refine⟨h.hW,h.hC,h.hCW,ae,λa ha b hb=>?_,λb hb=>by have:=h.C_ b hb;omega,λa a' b ha ha' hb Ir=>?_,λa b ha hb xq=>?_,h.ixd,h.ixM,h.hel,h.old⟩
 .rcases mem a b ha hb with⟨x,y⟩|⟨_,x⟩
  .have:=h.own a ha b x;omega
  .omega
 .rcases mem a b ha hb with⟨x,y⟩|⟨x,y⟩<;>rcases mem a' b ha' Ir with⟨x',y'⟩|⟨x',y'⟩
  .exact h.dis a a' b ha ha' x x'
  .omega
  .omega
  .omega
 .rcases mem a b ha hb with⟨x,y⟩|⟨x,y⟩
  .exact h.aa7 a b ha x xq
  .have:=h.C_ b xq;omega
theorem Gm.aqt(h:Gm Wg C B M j ix ow l0 sz)(hs:sz<=sz'):Gm Wg C B M j ix ow (l0++fresh sz sz') sz':=by
 have hB:=h.hB;refine⟨h.hW,h.hC,h.hCW,ae,λa ha b hb=>by have:=h.own a ha b hb;omega,λb hb=>?_,h.dis,λa b ha hb xq=>?_,h.ixd,h.ixM,h.hel,h.old⟩
 .rw[kJ,D8]at hb;rcases hb with hb|hb
  .have:=h.C_ b hb;omega
  .omega
 .rw[kJ,D8]at xq;have:=h.own a ha b hb;exact xq.elim (h.aa7 a b ha hb) ae
theorem Gm.fork(h:Gm Wg C B M j ix ow l0 sz){idx:Nat}{l l0':List Nat}(hl:∀b∈l,b∈l0)(hl0:∀b,b∈l0'↔b∈l0/\b∉l)(hi:∀i,rQ.el<=i->i<j->ix i≠idx)(hM:M idx):
  Gm Wg C B M (j+1) (upd ix j idx) (upd ow j l) l0' sz:=by
 have mem:∀a b,a<j+1->b∈upd ow j l a->(a<j/\b∈ow a)\/(a=j/\b∈l):=by
  intro a b ha hb;by_cases e:a=j
  .subst e;rw[upd_same]at hb;exact .inr ⟨rfl,hb⟩
  .rw[upd_ne ow _ e]at hb;exact .inl ⟨ae,hb⟩
 refine⟨h.hW,h.hC,h.hCW,h.hB,λa ha b hb=>?_,λb hb=>h.C_ b ((hl0 b).1 hb).1,λa a' b ha ha' hb Ir=>?_,λa b ha hb xq=>?_,λa a' la la' ha ha' e=>?_,λa la ha=>?_,by have:=h.hel;omega,h.old⟩
 .rcases mem a b ha hb with⟨x,y⟩|⟨_,y⟩
  .exact h.own a x b y
  .exact h.C_ b (hl b y)
 .rcases mem a b ha hb with⟨x,y⟩|⟨x,y⟩<;>rcases mem a' b ha' Ir with⟨x',y'⟩|⟨x',y'⟩
  .exact h.dis a a' b x x' y y'
  .exact absurd (hl b y') (h.aa7 a b x y)
  .exact absurd (hl b y) (h.aa7 a' b x' y')
  .omega
 .have xq:=(hl0 b).1 xq;rcases mem a b ha hb with⟨x,y⟩|⟨x,y⟩
  .exact h.aa7 a b x y xq.1
  .exact xq.2 y
 .by_cases e1:a=j<;>by_cases e2:a'=j
  .omega
  .subst e1;rw[upd_same,upd_ne ix _ e2]at e;exact absurd e.symm (hi a' la' ae)
  .subst e2;rw[upd_same,upd_ne ix _ e1]at e;exact absurd e (hi a la ae)
  .rw[upd_ne ix _ e1,upd_ne ix _ e2]at e;exact h.ixd a a' la la' ae ae e
 .by_cases e:a=j
  .subst e;rw[upd_same];exact hM
  .rw[upd_ne ix _ e];exact h.ixM a la ae
end
omit [qV][rQ]in
theorem ae1{Sh:Loc->Prop}{Own Own' Rd:Nat->Loc->Prop}{t:Trace}{j:Nat}(h:CT Sh Own Rd t j)(h1:∀k l,1<=k->k<=j->Own k l->Own' k l)
  (h2:∀k l,1<=k->k<=j->Own' k l->Own k l\/∀i a,touchAt t i=some a->a.loc≠l):CT Sh Own' Rd t j:=
 ⟨h.quiet,λk k1 kj l hl=>(h2 k l k1 kj hl).elim (h.own k k1 kj l) λhn i a ha e=>absurd e (hn i a ha),h.rd,
  λl hs hl=>h.free l hs λk k1 kj=>⟨λho=>(hl k k1 kj).1 (h1 k l k1 kj ho),(hl k k1 kj).2⟩,λl hs hl=>h.mine l hs λk k1 kj ho=>hl k k1 kj (h1 k l k1 kj ho),h.nr,h.gs⟩
def UN(Wg sz:Nat)(act:MemAct):Prop:=∀x,act.touch?=some x->(∀ad,x.loc=.cell ad->ad.block<sz)/\(x.kind=.atomic->ShN Wg x.loc)/\x.loc.isMemory=true
omit [qV][rQ]in
theorem D9{Wg sz:Nat}{act:MemAct}(h:act.touch?=none):UN Wg sz act:=λx hx=>by rw[h]at hx;cases hx
omit [qV][rQ]in
theorem XO{Wg sz:Nat}(a:Addr)(x:Bool)(h:a.block<sz):UN Wg sz (MemAct.ofEvent ⟨.cell a,x,false⟩):=by
 intro z hz;rw[Go.ConcR.ofEvent_cell]at hz;simp only[MemAct.touch?,gy]at hz;subst hz;refine⟨λad e=>?_,λe=>?_,rfl⟩
 .simp only[Loc.cell.injEq]at e;subst e;exact h
 .simp at e
omit [qV][rQ]in
theorem al_{Wg sz:Nat}(a:Addr)(x y:Bool)(ha:a.block=Wg)(h:Wg<sz):UN Wg sz (MemAct.ofEvent ⟨.cell a,x,y⟩):=by intro z hz;rw[Go.ConcR.ofEvent_cell]at hz;simp only[MemAct.touch?,gy]at hz;subst hz;refine⟨λad e=>?_,λ_=>⟨a,rfl,ha⟩,rfl⟩;simp only[Loc.cell.injEq]at e;subst e;omega
omit [qV]in
def aa8(Wg sz:Nat)(op:MemOp):Prop:=∀x,op.act.touch?=some x->(∀ad,x.loc=.cell ad->ad.block<sz)/\(rQ.el<op.g->x.kind=.atomic->ShN Wg x.loc)/\(op.g≠0->x.loc.isMemory=true)
omit [qV]in
theorem UN.g{Wg sz:Nat}{op:MemOp}(h:UN Wg sz op.act):aa8 Wg sz op:=λx hx=>⟨(h x hx).1,λ_=>(h x hx).2.1,λ_=>(h x hx).2.2⟩
omit [qV]in
theorem agf{Wg a b:Nat}(h:a<=b){op:MemOp}(hl:aa8 Wg a op):aa8 Wg b op:=λx hx=>⟨λad e=>aK ((hl x hx).1 ad e) h,(hl x hx).2⟩
omit [qV]in
theorem agh{t:Trace}{Wg sz:Nat}(h:∀op∈t,aa8 Wg sz op){i:Nat}{a:Touch}(ha:touchAt t i=some a){ad:Addr}(e:a.loc=.cell ad):ad.block<sz:=by obtain⟨x,hx,hxa⟩:=touch_of ha;exact(h x (eG hx) a hxa).1 ad e
def ae2(Wg:Nat)(t:Trace):Prop:=∀(i:Nat)(op:MemOp)(x:Touch),t[i]?=some op->op.act.touch?=some x->x.loc.isMemory=true->op.g≠0->op.g<=rQ.el->Knows t 0 i\/(GV Wg x.loc/\x.kind=.atomic)
def ae3(t:Trace):Prop:=∀i g,t.g? i=some g->g≠0->g<=rQ.el->t.counts i->∃q,t.g? q=some 0/\HappensBefore t i q
def Ol(u:Trace):Prop:=∀op∈u,op.g=0\/rQ.el<op.g\/op.act.touch?=none
theorem ae2.app{Wg:Nat}{t u:Trace}(h:ae2 Wg t)(hu:Ol u):ae2 Wg (t++u):=by
 intro i op x hi hx hm h0 he;rcases getElem?_append_cases hi with⟨_,JQ⟩|⟨_,hiu⟩
 .exact(h i op x JQ hx hm h0 he).imp (·.app u) id
 .rcases hu op hiu with h1|h1|h1
  .exact absurd h1 h0
  .omega
  .rw[h1]at hx;cases hx
omit [qV]in
theorem ae3.app{t u:Trace}(h:ae3 t)(hu:Ol u):ae3 (t++u):=by
 intro i g hg hne he hc;obtain⟨x,hx,hx'⟩:=hc;obtain⟨op,uJ,hox⟩:=touch_of hx;rcases getElem?_append_cases uJ with⟨hi,arv⟩|⟨_,apv⟩
 .obtain⟨j,hj,hb⟩:=h i g (by simpa[Trace.g?,getElem?_append_old hi]using hg) hne he ((counts_old hi).1 ⟨x,hx,hx'⟩)
  have Nz:j<t.size:=by unfold Trace.g? at hj;obtain⟨z,hz,_⟩:=bT.1 hj;exact lt_size_of_getElem? hz
  exact⟨j,by simpa[Trace.g?,getElem?_append_old Nz]using hj,hb_app u hb⟩
 .have e:op.g=g:=by simpa[Trace.g?,uJ]using hg
  rcases hu op apv with h1|h1|h1
  .omega
  .omega
  .rw[h1]at hox;cases hox
omit [qV]in
theorem Hf{i:Nat}{fn:FuncId}{pos:String}{es:Array Event}(h:i=0\/rQ.el<i):Ol (MemOp.ofEvents i fn pos es):=λop uJ=>by obtain⟨e,_,rfl⟩:=Go.Conc.mem_ofEvents uJ;exact h.imp id .inl
omit [rQ]in
theorem ajc{Wg:Nat}{Own Rd:Nat->Loc->Prop}{k:Nat}{fn:FuncId}{pos:String}{es:Array Event}(h:∀e∈es,Go.ConcR.Bk Wg e):∀op∈MemOp.ofEvents k fn pos es,OkW (GV Wg) Own Rd k op:=
 λop uJ=>let y:=okW_of_Bk h op uJ;⟨y.1,λx hx=>(y.2 x hx).imp (λz=>⟨.inl z.1,z.2⟩) id⟩
omit [rQ]in
theorem ama{Wg:Nat}{Own Rd:Nat->Loc->Prop}{k:Nat}{fn:FuncId}{pos:String}{es:Array Event}(h:∀e∈es,(MemAct.ofEvent e).touch?=none):∀op∈MemOp.ofEvents k fn pos es,OkW (GV Wg) Own Rd k op:=λop uJ=>by obtain⟨e,he,rfl⟩:=Go.Conc.mem_ofEvents uJ;exact⟨rfl,λx hx=>by simp only[h e he]at hx;cases hx⟩
omit [rQ]in
theorem aoL{Wg j:Nat}{Own Rd:Nat->Loc->Prop}{fn:FuncId}{pos:String}{es:Array Event}(h:∀e∈es,Go.ConcR.Bk Wg e):∀op∈MemOp.ofEvents 0 fn pos es,Ok0 (GV Wg) Own Rd j op:=λop uJ=>by
 obtain⟨e,he,rfl⟩:=Go.Conc.mem_ofEvents uJ;refine⟨rfl,λx hx=>?_⟩;rcases h e he with h1|h1|⟨a,wr,rfl,ha⟩
 .exact ayb
 .exact ayb
 .simp only[Go.ConcR.ofEvent_cell,MemAct.touch?,gy]at hx;subst hx;exact .inl ⟨.inl ⟨a,rfl,ha⟩,ai⟩
omit [rQ]in
theorem Zb{Wg:Nat}{b:Addr}(h1:b.block≠Wg)(h2:¬qV.old b.block):¬GV Wg (.cell b):=λh=>
 h.elim (λ⟨a,e,y⟩=>by obtain rfl:=dQ e;exact h1 y) (λ⟨a,e,y⟩=>by obtain rfl:=dQ e;exact h2 y)
def Zc(Wg:Nat)(t:Trace):Prop:=∀i,rQ.ts<=i->t.act? i≠some (.mark (.release (stA Wg)))
omit [qV]in
theorem Zc.app{Wg:Nat}{t u:Trace}(h:Zc Wg t)(hu:∀op∈u,op.act≠.mark (.release (stA Wg))):Zc Wg (t++u):=λi hi e=>by
 obtain⟨op,uJ,hoe⟩:=bT.1 e;rcases getElem?_append_cases uJ with⟨_,arv⟩|⟨_,apv⟩
 .exact h i hi (by unfold Trace.act?;rw[arv];exact aP some hoe)
 .exact hu op apv hoe
omit [qV]in
def MM(Wg j:Nat)(t:Trace):Prop:=
 ∃q,t.act? q=some (.mark (.acquire (stA Wg)))/\t.g? q=some 0/\t.heard q/\∀i,rQ.el<=i->i<j->∃r,RelBy (stA Wg) t (i+1) r/\r<q/\rQ.ts<=r
omit [qV]in
theorem MM.app{Wg j:Nat}{t u:Trace}(h:MM Wg j t)(hu:∀i r,rQ.el<=i->i<j->RelBy (stA Wg) t (i+1) r->RelBy (stA Wg) (t++u) (i+1) r):MM Wg j (t++u):=by obtain⟨q,h1,h2,h3,h4⟩:=h;have hq:=lt_of_act? h1;exact⟨q,by rw[act?_old hq];exact h1,by rw[g?_old hq];exact h2,(heard_old hq).2 h3,λi hl hi=>let⟨r,hr,hrq⟩:=h4 i hl hi;⟨r,hu i r hl hi hr,hrq⟩⟩
end Go.Gh
namespace Go.Gh
open Go.Conc Go.ConcN
open Go.ConcR (KK WgAt stA smA rd wr mk Payload DC0 g_of_ofEvents Bk)
variable [Payload][qV][rQ][yw]
section
variable (P:Program)(ty:TypeId)(Wg C n B:Nat)(M:Nat->Prop)(WP:Nat->Value->World->Prop)
structure Cm(j:Nat)(gs:Array Goroutine)(W:World)(t:Trace)(D:Nat->WD)(ix:Nat->Nat)(ow:Nat->List Nat)(l0:List Nat)(d0:Nat):Prop where
 size:gs.size=j+1
 wk:∀i,rQ.el<=i->i<j->∃g,gs[i+1]?=some g/\WS P ty Wg C n B WP (ix i) (ow i) (D i).stage (D i).fuel (D i).deaf g W
 eld:∀i,i<rQ.el->∃g,gs[i+1]?=some g/\(D i).stage=1/\QuitsD P (D i).fuel (D i).deaf g
 past:ae2 Wg t
 over:ae3 t
 ct:CT (GV Wg) (Wl C j ix ow) (RdF Wg C B) t j
 norel:Zc Wg t
 hts:rQ.ts<=t.size
 low:∀op∈t,aa8 Wg W.heap.size op
 deaf0:Deaf t 0=d0
 deafW:∀i,i<j->Deaf t (i+1)=(D i).deaf
 rel:∀i,rQ.el<=i->i<j->(D i).stage<=6->∃r,RelBy (stA Wg) t (i+1) r/\rQ.ts<=r
 pay:PayAt C n W
 gm:Gm Wg C B M j ix ow l0 W.heap.size
 out:W.output=yw.o0
 os:W.os=yw.os0
end
section
variable {P:Program}{ty:TypeId}{Wg C n B:Nat}{M:Nat->Prop}{WP:Nat->Value->World->Prop}{j:Nat}{gs:Array Goroutine}{W W':World}{t:Trace}{D:Nat->WD}{ix:Nat->Nat}{ow:Nat->List Nat}{l0:List Nat}{d0:Nat}
omit [Payload][qV][rQ][yw]in
theorem aa9{P:Program}{main:Bool}{g g':Goroutine}{es:Array Event}(h:stepG P main g W=.go g' W' es):W'.output=W.output:=(Ha P W.output (w:=W) h).2
omit [Payload][qV][yw]in
theorem Tm{u:Trace}{a b:Nat}(h:∀op∈t,aa8 Wg a op)(hab:a<=b)(hu:∀op∈u,UN Wg b op.act):∀op∈t++u,aa8 Wg b op:=λop uJ=>(mO.1 uJ).elim (λx=>agf hab (h op x)) (λx=>(hu op x).g)
theorem Cm.at(hWP:∀idx v w w₁,Ro Wg C n B (λ_=>False) w w₁->WP idx v w->WP idx v w₁)(h:Cm P ty Wg C n B M WP j gs W t D ix ow l0 d0)(d:Nat):Cm P ty Wg C n B M WP j gs (W.at d) t D ix ow l0 d0:=
 ⟨h.size,λi Ld hi=>let⟨g,hg,hs⟩:=h.wk i Ld hi
  ⟨g,hg,hs.rely (hWP _) (lo:=[]) (Cm:=λ_=>False) (P8.at W d) h.gm.hB ai (λb hb=>⟨ai,(h.gm.own i hi b hb).2,by have:=(h.gm.own i hi b hb).1;have:=h.gm.hC;omega,by have:=(h.gm.own i hi b hb).1;have:=h.gm.hW;omega⟩) id⟩,h.eld,h.past,h.over,h.ct,h.norel,h.hts,h.low,h.deaf0,h.deafW,h.rel,h.pay,h.gm,h.out,h.os⟩
omit [Payload][yw]in
theorem agi(hl:∀op∈t,aa8 Wg W.heap.size op)(A7:CT (GV Wg) (Wl C j ix ow) (RdF Wg C B) t j)(i:Nat):
  CT (GV Wg) (Wl C j ix (upd ow i (ow i++fresh W.heap.size W'.heap.size))) (RdF Wg C B) t j:=by
 refine ae1 A7 (λk l _ kj ⟨k1,_,a,e,x⟩=>⟨k1,kj,a,e,x.imp (λy=>?_) id⟩) (λk l _ kj ⟨k1,_,a,e,x⟩=>?_)
 .by_cases ek:k-1=i
  .rw[ek,upd_same];rw[ek]at y;exact aub _ y
  .rw[upd_ne ow _ ek];exact y
 .rcases x with x|x
  .by_cases ek:k-1=i
   .rw[ek,upd_same,kJ,D8]at x;rcases x with x|x
    .exact .inl ⟨k1,kj,a,e,.inl (by rw[ek];exact x)⟩
    .exact .inr λi' b hb e'=>by have:=agh hl hb (e'.trans e);omega
   .rw[upd_ne ow _ ek]at x;exact .inl ⟨k1,kj,a,e,.inl x⟩
  .exact .inl ⟨k1,kj,a,e,.inr x⟩
theorem Cm.stepW(hWP:∀idx v w w₁,Ro Wg C n B (λ_=>False) w w₁->WP idx v w->WP idx v w₁)(h:Cm P ty Wg C n B M WP j gs W t D ix ow l0 d0){i:Nat}(Ld:rQ.el<=i)(hi:i<j){g g':Goroutine}{fn:FuncId}{pos:String}{es:Array Event}{s' m' dd':Nat}
  (hc:P8 ty Wg C n (ow i) (· =ix i) W W') (xn:WS P ty Wg C n B WP (ix i) (ow i++fresh W.heap.size W'.heap.size) s' m' dd' g' W')
  (DX:∀op∈MemOp.ofEvents (i+1) fn pos es,OkW (GV Wg) (Wl C j ix (upd ow i (ow i++fresh W.heap.size W'.heap.size))) (RdF Wg C B) (i+1) op) (uy:∀e∈es,UN Wg W'.heap.size (MemAct.ofEvent e))
  (hnr:∀e∈es,e.loc≠.mark (.release (stA Wg))) (akP:deafBehind (D i).deaf es=dd')
  (hrel:s'<=6->∃r,RelBy (stA Wg) (t++MemOp.ofEvents (i+1) fn pos es) (i+1) r/\rQ.ts<=r) (ho:W'.output=W.output):
  Cm P ty Wg C n B M WP j ((gs.map (woken P g g' W')).setIfInBounds (i+1) g') W' (t++MemOp.ofEvents (i+1) fn pos es) (upd D i ⟨s',m',dd'⟩) ix (upd ow i (ow i++fresh W.heap.size W'.heap.size)) l0 d0:=by
 have gm':=h.gm.aqs (sz':=W'.heap.size) hc.size hi
 refine⟨jE,λi' Fg JQ=>?_,λi' Fg=>?_,h.past.app (Hf (.inr ae)),h.over.app (Hf (.inr ae)),(agi h.low h.ct i).appW gm'.apart ae ae DX,h.norel.app (norel_of hnr),pV,
  Tm h.low hc.size (λop uJ=>by obtain⟨e,he,rfl⟩:=Go.Conc.mem_ofEvents uJ;exact uy e he),av6,λi' JQ=>?_,λi' Fg JQ uw=>?_,hc.pay h.pay,gm',ho.trans h.out,hc.os.trans h.os⟩
 rotate_left
 .obtain⟨x,hx,FU,SX⟩:=h.eld i' Fg;refine⟨x,auZ,?_⟩;rw[upd_ne D _ ae];exact⟨FU,SX⟩
 rotate_left 2
 .by_cases e:i'=i
  .subst e;exact⟨g',get_map_set_same _ _ _ pJ,by rw[upd_same,upd_same];exact xn⟩
  .obtain⟨x,hx,hsx⟩:=h.wk i' Fg JQ;refine⟨x,au0,?_⟩;rw[upd_ne D _ e,upd_ne ow _ e];refine hsx.rely (hWP _) hc h.gm.hB (λb hb=>(h.gm.own i hi b hb).1) (λb hb=>⟨λIr=>e (h.gm.dis i' i b JQ hi hb Ir),(h.gm.own i' JQ b hb).2,?_,?_⟩) (λe'=>e (h.gm.ixd i' i Fg Ld JQ hi e'))
   .have:=(h.gm.own i' JQ b hb).1;have:=h.gm.hC;omega
   .have:=(h.gm.own i' JQ b hb).1;have:=h.gm.hW;omega
 .by_cases e:i'=i
  .subst e;rw[Deaf_own,h.deafW i' JQ,upd_same];exact akP
  .exact axB
 .by_cases e:i'=i
  .subst e;rw[upd_same]at uw;exact hrel uw
  .rw[upd_ne D _ e]at uw;exact axh
theorem Cm.step0(hWP:∀idx v w w₁,Ro Wg C n B (λ_=>False) w w₁->WP idx v w->WP idx v w₁)(h:Cm P ty Wg C n B M WP j gs W t D ix ow l0 d0){a a':Goroutine}{fn:FuncId}{pos:String}{es:Array Event}
  (hc:P8 ty Wg C n l0 (λi=>¬M i) W W')
  (DX:∀op∈MemOp.ofEvents 0 fn pos es,Ok0 (GV Wg) (Wl C j ix ow) (RdF Wg C B) j op) (uy:∀e∈es,UN Wg W'.heap.size (MemAct.ofEvent e)) (hnr:∀e∈es,e.loc≠.mark (.release (stA Wg))) (ho:W'.output=W.output):
  Cm P ty Wg C n B M WP j ((gs.map (woken P a a' W')).setIfInBounds 0 a') W' (t++MemOp.ofEvents 0 fn pos es) D ix ow (l0++fresh W.heap.size W'.heap.size) (deafBehind d0 es):=by
 refine⟨jE,λi Ld hi=>?_,λi hi=>?_,h.past.app (Hf (.inl rfl)),h.over.app (Hf (.inl rfl)),h.ct.app0 h.gm.apart DX,h.norel.app (norel_of hnr),pV,Tm h.low hc.size (λop uJ=>by obtain⟨e,he,rfl⟩:=Go.Conc.mem_ofEvents uJ;exact uy e he),
  by rw[Deaf_own,h.deaf0],λi hi=>by rw[Deaf_other t ae _ g_of_ofEvents,h.deafW i hi],λi Ld hi uw=>?_,hc.pay h.pay,h.gm.aqt hc.size,ho.trans h.out,hc.os.trans h.os⟩
 .obtain⟨x,hx,hsx⟩:=h.wk i Ld hi;refine⟨x,au0,hsx.rely (hWP _) hc h.gm.hB (λb hb=>(h.gm.C_ b hb).1) (λb hb=>⟨h.gm.aa7 i b hi hb,(h.gm.own i hi b hb).2,?_,?_⟩) (λhn=>hn (h.gm.ixM i Ld hi))⟩
  .have:=(h.gm.own i hi b hb).1;have:=h.gm.hC;omega
  .have:=(h.gm.own i hi b hb).1;have:=h.gm.hW;omega
 .obtain⟨x,hx,FU,SX⟩:=h.eld i hi;exact⟨x,auZ,FU,SX⟩
 .obtain⟨r,hr,hrs⟩:=h.rel i Ld hi uw;exact⟨r,hr.appOther g_of_ofEvents ae,hrs⟩
theorem Cm.spawn(h:Cm P ty Wg C n B M WP j gs W t D ix ow l0 0){a' child:Goroutine}{x y:MemOp}{m idx:Nat}{l l0':List Nat}(hx:x.g=0/\x.act=.go (j+1))(hy:y.g=j+1/\y.act=.start)
  (hl:∀b∈l,b∈l0) (hl0:∀b,b∈l0'↔b∈l0/\b∉l) (hid:∀i,rQ.el<=i->i<j->ix i≠idx) (hM:M idx) (hc:Wk P ty Wg C n B WP idx m child (gw W l)):
  Cm P ty Wg C n B M WP (j+1) ((gs.setIfInBounds 0 a').push child) W (t++#[x,y]) (upd D j ⟨7,m+24,0⟩) (upd ix j idx) (upd ow j l) l0' 0:=by
 have gm':=h.gm.fork hl hl0 hid hM;have hm:∀op∈#[x,y],op=x\/op=y:=by intro op uJ;simpa using uJ
 have uw:∀op∈#[x,y],op.act≠.mark .disable/\op.act≠.mark .enable:=by
  intro op uJ;rcases hm op uJ with rfl|rfl
  .rw[hx.2];exact⟨ai,ai⟩
  .rw[hy.2];exact⟨ai,ai⟩
 have A7:CT (GV Wg) (Wl C (j+1) (upd ix j idx) (upd ow j l)) (RdF Wg C B) t j:=by
  refine ae1 h.ct (λk l' _ kj ⟨k1,_,a,e,z⟩=>⟨k1,ae,a,e,?_⟩) (λk l' _ kj ⟨k1,_,a,e,z⟩=>.inl ⟨k1,kj,a,e,?_⟩)
  .rw[upd_ne ow _ ae,upd_ne ix _ ae];exact z
  .rw[upd_ne ow _ ae,upd_ne ix _ ae]at z;exact z
 have hel:=h.gm.hel;have hne:Ol #[x,y]:=λop uJ=>(hm op uJ).elim (λe=>.inl (by rw[e];exact hx.1)) (λe=>.inr (.inl (by rw[e,hy.1];omega)))
 refine⟨jE,λi Ld hi=>?_,λi hi=>?_,h.past.app hne,h.over.app hne,A7.fork gm'.apart hx hy h.deaf0,h.norel.app λop uJ=>?_,pV,Tm h.low (ak _) (λop uJ=>?_),by rw[Deaf_still t 0 _ uw,h.deaf0],λi hi=>?_,λi Ld hi hs=>?_,h.pay,gm',h.out,h.os⟩
 .rcases aQ i j with qE|VF
  .obtain⟨g,hg,hsg⟩:=h.wk i Ld qE;refine⟨g,?_,by rw[upd_ne D _ ae,upd_ne ix _ ae,upd_ne ow _ ae];exact hsg⟩;rw[auq auA,<-kV,jr ae];exact hg
  .obtain rfl:i=j:=ae;refine⟨child,?_,by rw[upd_same,upd_same,upd_same];exact .comp hc⟩;rw[show i+1=(gs.setIfInBounds 0 a').size by simp[h.size],Array.getElem?_push_size]
 .obtain⟨g,hg,Rz,SV⟩:=h.eld i hi;refine⟨g,?_,by rw[upd_ne D _ ae];exact⟨Rz,SV⟩⟩;rw[auq auA,<-kV,jr ae];exact hg
 .rcases hm op uJ with rfl|rfl
  .rw[hx.2];simp
  .rw[hy.2];simp
 .rcases hm op uJ with rfl|rfl
  .rw[hx.2];exact D9 rfl
  .rw[hy.2];exact D9 rfl
 .rw[Deaf_still t _ _ uw];rcases aQ i j with qE|VF
  .rw[h.deafW i qE,upd_ne D _ ae]
  .obtain rfl:i=j:=ae;rw[upd_same];exact Deaf_absent λa op ha e=>by have:=h.ct.gs a op ha;omega
 .rcases aQ i j with qE|VF
  .rw[upd_ne D _ ae]at hs;obtain⟨r,hr,hrs⟩:=h.rel i Ld qE hs;refine⟨r,hr.appNot (λop uJ=>?_),hrs⟩;rcases hm op uJ with rfl|rfl
   .rw[hx.1];omega
   .rw[hy.1];omega
  .obtain rfl:i=j:=ae;rw[upd_same]at hs;simp at hs
end
end Go.Gh
namespace Go.Gh
open Go.Conc Go.ConcN
open Go.ConcR (KK WgAt stA smA rd wr mk Payload DC0 g_of_ofEvents Bk bk_of_mute ofEvent_loc_mark ofEvent_cell)
variable [Payload][qV][rQ][yw]
omit [Payload][qV][rQ][yw]in
theorem En(a:Nat):fresh a a=[]:=by simp[fresh]
section
variable (P:Program)(ty:TypeId)(Wg C n B:Nat)(M:Nat->Prop)(WP:Nat->Value->World->Prop)(K:List Nat->Goroutine->World->Prop)(N:Nat)
def Iv(μ:Nat×Nat)(m:Machine)(t:Trace):Prop:=
 ∃(gs:Array Goroutine)(W:World)(sl:Option (Nat×Nat))(j:Nat)(D:Nat->WD)(ix:Nat->Nat)(ow:Nat->List Nat)(tag:CTag)(r f0 d0:Nat)(a:Goroutine)(st sm:Int)(l0 ids:List Nat),
  m=crowd gs W sl/\gs[0]?=some a/\MS P ty Wg C n B M WP K ids l0 tag r f0 d0 a W/\Cm P ty Wg C n B M WP j gs W t D ix ow l0 d0/\WgAt ty Wg W st sm/\ConcN.Mode j D tag st sm/\
  (tag=.ret->MM Wg j t)/\(∀i,rQ.el<=i->i<j->ix i∈ids)/\(∀x∈ids,∃i,rQ.el<=i/\i<j/\ix i=x)/\j+r=N/\μ=(phi N (Vc j D) tag+Ssum j D,f0+2*Fsum j D)
structure O_:Prop where
 wp:∀idx v w w₁,Ro Wg C n B (λ_=>False) w w₁->WP idx v w->WP idx v w₁
 k:∀ids g w w₁,Ro Wg C n B (λi=>¬M i) w w₁->K ids g w->K ids g w₁
end
section
variable {P:Program}{ty:TypeId}{Wg C n B:Nat}{M:Nat->Prop}{WP:Nat->Value->World->Prop}{K:List Nat->Goroutine->World->Prop}{N:Nat}
 {gs:Array Goroutine} {W W':World} {sl:Option (Nat×Nat)} {j:Nat} {D:Nat->WD} {ix:Nat->Nat} {ow:Nat->List Nat} {tag:CTag} {r f0 d0:Nat} {a:Goroutine} {t:Trace} {st sm:Int} {l0 ids:List Nat}
theorem Pe(hb:O_ Wg C n B M WP K)(ha:gs[0]?=some a)(QD:MS P ty Wg C n B M WP K ids l0 tag r f0 d0 a W)(sF:Cm P ty Wg C n B M WP j gs W t D ix ow l0 d0)
  (Lc:∀i,rQ.el<=i->i<j->ix i∈ids) (Gz:∀x∈ids,∃i,rQ.el<=i/\i<j/\ix i=x) (hN:j+r=N)
  {i:Nat} (Ld:rQ.el<=i) (hi:i<j) {g g':Goroutine} {es:Array Event} {s' m' dd':Nat} {st' sm':Int} (hg:gs[i+1]?=some g) (hgo:stepG P false g W=.go g' W' es)
  (hc:P8 ty Wg C n (ow i) (· =ix i) W W') (xn:WS P ty Wg C n B WP (ix i) (ow i++fresh W.heap.size W'.heap.size) s' m' dd' g' W')
  (DX:∀op∈MemOp.ofEvents (i+1) g.frame.fn g.frame.place es,OkW (GV Wg) (Wl C j ix (upd ow i (ow i++fresh W.heap.size W'.heap.size))) (RdF Wg C B) (i+1) op) (uy:∀e∈es,UN Wg W'.heap.size (MemAct.ofEvent e))
  (hnr:∀e∈es,e.loc≠.mark (.release (stA Wg))) (akP:deafBehind (D i).deaf es=dd')
  (hrel:s'<=6->∃r,RelBy (stA Wg) (t++MemOp.ofEvents (i+1) g.frame.fn g.frame.place es) (i+1) r/\rQ.ts<=r) (wP:WgAt ty Wg W' st' sm')
  (qW:∀tag',(tag'=tag\/(tag=.blk/\tag'=.w3))->(mayWake P g=true->g'.status=.running->tag'≠.blk)->ConcN.Mode j (upd D i ⟨s',m',dd'⟩) tag' st' sm')
  (DY:tag=.ret->MM Wg j (t++MemOp.ofEvents (i+1) g.frame.fn g.frame.place es))
  (qE:(s'<(D i).stage/\cnt ⟨s',m',dd'⟩<=cnt (D i))\/(s'=(D i).stage/\m'+1<=(D i).fuel)):
  ∃m₁ ops μ',runT P (crowd gs W sl) (i+1)=(.next m₁,ops)/\Lt2 μ' (phi N (Vc j D) tag+Ssum j D,f0+2*Fsum j D)/\Iv P ty Wg C n B M WP K N μ' m₁ (t++ops):=by
 have arZ:=QD.rely hb.k hc sF.gm.hB (λb hb=>(sF.gm.own i hi b hb).1) (λb xq=>⟨λhbi=>sF.gm.aa7 i b hi hbi xq,(sF.gm.C_ b xq).2,by have:=(sF.gm.C_ b xq).1;have:=sF.gm.hC;omega,by have:=(sF.gm.C_ b xq).1;have:=sF.gm.hW;omega⟩) (λx hx=>by subst hx;exact sF.gm.ixM i Ld hi);obtain⟨tag',f',Jp,hf',aen,hwk⟩:=arZ.wokenBy g g';have sJ:=runT_crowd_go (P:=P) (sl:=sl) (i:=i+1) hg (by simpa using hgo);have e1:=sumTo_upd D (⟨s',m',dd'⟩:WD) cnt hi;have e2:=sumTo_upd D (⟨s',m',dd'⟩:WD) WD.stage hi;have e3:=sumTo_upd D (⟨s',m',dd'⟩:WD) WD.fuel hi
 refine⟨_,_,(phi N (Vc j (upd D i ⟨s',m',dd'⟩)) tag'+Ssum j (upd D i ⟨s',m',dd'⟩),f'+2*Fsum j (upd D i ⟨s',m',dd'⟩)),sJ,?_,
  _,W',sl,j,upd D i ⟨s',m',dd'⟩,ix,_,tag',r,f',d0,woken P g g' W' a,st',sm',l0,ids,rfl,avS,Jp,sF.stepW hb.wp Ld hi hc xn DX uy hnr akP hrel (aa9 hgo),wP,qW tag' aen hwk,?_,Lc,Gz,hN,rfl⟩
 .rw[phi_retag N _ aen];simp only[Vc,Ssum,Fsum]at*;rcases qE with⟨h1,h2⟩|⟨h1,h2⟩
  .refine Prod.Lex.left _ _ ?_;have:=phi_mono N (v':=sumTo j λa=>cnt (upd D i ⟨s',m',dd'⟩ a)) (v:=sumTo j λa=>cnt (D a)) ae tag;omega
  .have ec:cnt (⟨s',m',dd'⟩:WD)=cnt (D i):=by simp only[cnt,h1]
   have ev:(sumTo j λa=>cnt (upd D i ⟨s',m',dd'⟩ a))=sumTo j λa=>cnt (D a):=ae
   have rJ:(sumTo j λa=>(upd D i ⟨s',m',dd'⟩ a).stage)=sumTo j λa=>(D a).stage:=ae
   rw[ev,rJ];refine Prod.Lex.right _ ?_;omega
 .intro e;rcases aen with rfl|⟨_,rfl⟩
  .exact DY e
  .cases e
omit [Payload][qV][rQ][yw]in
theorem ajd{es:Array Event}(h:∀e∈es,Bk Wg e){sz:Nat}(hW:Wg<sz):∀e∈es,UN Wg sz (MemAct.ofEvent e):=by
 intro e he;rcases h e he with h1|h1|⟨a,wr,rfl,ha⟩
 .exact D9 avK
 .exact D9 avK
 .exact al_ _ _ _ ha hW
theorem ae4(hb:O_ Wg C n B M WP K)(S_:N<2147483648)(ha:gs[0]?=some a)(QD:MS P ty Wg C n B M WP K ids l0 tag r f0 d0 a W)(sF:Cm P ty Wg C n B M WP j gs W t D ix ow l0 d0)
  (wP:WgAt ty Wg W st sm) (qW:ConcN.Mode j D tag st sm) (DY:tag=.ret->MM Wg j t) (Lc:∀i,rQ.el<=i->i<j->ix i∈ids) (Gz:∀x∈ids,∃i,rQ.el<=i/\i<j/\ix i=x) (hN:j+r=N) (aje:j+pend tag<=N)
  {i:Nat} (Ld:rQ.el<=i) (hi:i<j) {g:Goroutine} (hg:gs[i+1]?=some g) (sJ:g.status=.running)
  {v:Value} {s m dd:Nat} (hs:WSit P ty Wg C n Z8 Z8 0 (ix i+1) v s m dd g W) (h23:s=7->m<=23) (hwp:WP (ix i) v (gw W (ow i))) (apw:s<=6->Has C (ix i) v W) (uw:(D i).stage=s) (hfu:m<=(D i).fuel) (hde:(D i).deaf=dd):
  ∃m₁ ops μ',runT P (crowd gs W sl) (i+1)=(.next m₁,ops)/\Lt2 μ' (phi N (Vc j D) tag+Ssum j D,f0+2*Fsum j D)/\Iv P ty Wg C n B M WP K N μ' m₁ (t++ops):=by
 have hVj:=Vc_le j D;have hdk:Deaf t (i+1)=dd:=by rw[sF.deafW i hi,hde]
 have hWs:Wg<W.heap.size:=aK sF.gm.hW sF.gm.hB
 have lib:∀{W':World}{s' m' dd':Nat}{g':Goroutine},Aside Wg W W'->WgLive ty Wg W'->WSit P ty Wg C n Z8 Z8 0 (ix i+1) v s' m' dd' g' W'->(s'=7->m'<=23)->(s'<=6->Has C (ix i) v W)->WS P ty Wg C n B WP (ix i) (ow i++fresh W.heap.size W'.heap.size) s' m' dd' g' W':=by intro W' s' m' dd' g' hA hl xn ajf hh;have hc:P8 ty Wg C n [] (λ_=>False) W W':=P8.of_wg hA hl sF.gm.hCW;have JU:=hc.ro (B:=B) (l:=ow i) (Cl:=λ_=>False) sF.gm.hB ai (λb Ir=>⟨ai,(sF.gm.own i hi b Ir).2,awr,awq⟩) (λ_=>False.elim);rw[hA.size,En,dD];exact .lib xn ajf (hb.wp _ _ _ _ JU hwp) (λh=>(hc.cells _ id).trans (hh h))
 have bookG:∀{g':Goroutine}{W':World}{es:Array Event}{s' m' dd':Nat}{st' sm':Int},stepG P false g W=.go g' W' es->Aside Wg W W'->WgAt ty Wg W' st' sm'->(∀e∈es,Bk Wg e)->
   (∀jx e,es[jx]?=some e->(MemAct.ofEvent e).touch?=none\/0<deafBehind dd (es.extract 0 jx))->WSit P ty Wg C n Z8 Z8 0 (ix i+1) v s' m' dd' g' W'->(s'=7->m'<=23)->deafBehind dd es=dd'->s<=6->
   (∀tag',(tag'=tag\/(tag=.blk/\tag'=.w3))->(mayWake P g=true->g'.status=.running->tag'≠.blk)->ConcN.Mode j (upd D i ⟨s',m',dd'⟩) tag' st' sm')->(tag=.ret->MM Wg j (t++MemOp.ofEvents (i+1) g.frame.fn g.frame.place es))->((s'<s/\cnt ⟨s',m',dd'⟩<=cnt (D i))\/(s'=s/\m'+1<=(D i).fuel))->
   ∃m₁ ops μ',runT P (crowd gs W sl) (i+1)=(.next m₁,ops)/\Lt2 μ' (phi N (Vc j D) tag+Ssum j D,f0+2*Fsum j D)/\Iv P ty Wg C n B M WP K N μ' m₁ (t++ops):=by
  intro g' W' es s' m' dd' st' sm' hgo hAs Le IG hd xn ajf hdd h6 Ig akQ qE
  exact Pe hb ha QD sF Lc Gz hN Ld hi hg hgo (P8.of_wg hAs ⟨_,_,Le⟩ sF.gm.hCW) (lib hAs ⟨_,_,Le⟩ xn ajf (λ_=>apw ae)) (ajc IG) (ajd IG (by rw[hAs.size];exact hWs)) (norel_of_Bk IG) (by rw[hde];exact hdd)
   (λ_=>let⟨r,hr,hrs⟩:=sF.rel i Ld hi ae;⟨r,hr.book hdk _ _ IG hd,hrs⟩) Le Ig akQ (by rw[uw];exact qE)
 have book:∀{g':Goroutine}{W':World}{es:Array Event}{s' m' dd':Nat}{st' sm':Int},stepG P false g W=.go g' W' es->Aside Wg W W'->WgAt ty Wg W' st' sm'->(∀e∈es,Bk Wg e)->
   (∀jx e,es[jx]?=some e->(MemAct.ofEvent e).touch?=none\/0<deafBehind dd (es.extract 0 jx))->WSit P ty Wg C n Z8 Z8 0 (ix i+1) v s' m' dd' g' W'->(s'=7->m'<=23)->deafBehind dd es=dd'->s<=6->
   ConcN.Mode j (upd D i ⟨s',m',dd'⟩) tag st' sm'->(tag=.ret->MM Wg j (t++MemOp.ofEvents (i+1) g.frame.fn g.frame.place es))->((s'<s/\cnt ⟨s',m',dd'⟩<=cnt (D i))\/(s'=s/\m'+1<=(D i).fuel))->
   ∃m₁ ops μ',runT P (crowd gs W sl) (i+1)=(.next m₁,ops)/\Lt2 μ' (phi N (Vc j D) tag+Ssum j D,f0+2*Fsum j D)/\Iv P ty Wg C n B M WP K N μ' m₁ (t++ops):=
  λhgo hAs Le IG hd xn ajf hdd h6 Ig akQ qE=>bookG hgo hAs Le IG hd xn ajf hdd h6 (λ_ ht _=>Ig.retag ht) akQ qE
 have idle:∀{g':Goroutine}{m':Nat},stepG P false g W=.go g' W #[]->WSit P ty Wg C n Z8 Z8 0 (ix i+1) v s m' dd g' W->m'+1=m->s<=6->s≠1->
   ∃m₁ ops μ',runT P (crowd gs W sl) (i+1)=(.next m₁,ops)/\Lt2 μ' (phi N (Vc j D) tag+Ssum j D,f0+2*Fsum j D)/\Iv P ty Wg C n B M WP K N μ' m₁ (t++ops):=by
  intro g' m' hgo xn hm h6 h1;exact book hgo (.refl Wg W) wP ai ai xn ae rfl h6 (by have:=qW.same (i:=i) m' dd;rwa[uw]at this) (λe=>absurd e (qW.not_ret hi ae)) (.inr ⟨rfl,ae⟩)
 have nr:s≠1->tag≠.ret:=λh=>qW.not_ret hi ae
 cases hs with
 |r0 h=>
  rcases Goes.cases h with sU|⟨m',rfl,rH⟩
  .obtain⟨_,hh,g',hgo,m₂,hk⟩:=sU W (RW.refl W)
   exact Pe hb ha QD sF Lc Gz hN Ld hi hg hgo (.refl W) (lib (.refl Wg W) ⟨_,_,wP⟩ (.k1 hk) ae (λ_=>by simpa using hh)) (ama (by intro e he;simp at he;subst he;rfl)) (by intro e he;simp at he;subst he;exact D9 rfl) (by intro e he;simp at he;subst he;simp[mk]) (by rw[hde];rfl)
    (λ_=>⟨t.size,RelBy.new hdk _ _,sF.hts⟩) wP (λ_ ht _=>(qW.counted hi ae (.inl rfl) _ _).retag ht) (λe=>absurd e (nr ae)) (.inl ⟨ae,by simp[cnt,uw]⟩)
  .obtain⟨g',W',es,hgo,⟨hac,hev⟩,uB⟩:=rH W (RW.refl W);simp only[gz]at hac;have JS:fresh W.heap.size W'.heap.size=[]:=by rw[hac.size,En]
   have hc:P8 ty Wg C n (ow i) (· =ix i) W W':=⟨dX hac.size.symm,hac.tape,hac.os,λb _ _ hbC _=>hac.block b hbC,λx hx=>hac.cells x hx,hac.pay,λ⟨a,b,x⟩=>⟨a,b,x.of_block (hac.block Wg (di sF.gm.hCW))⟩⟩;have hc0:P8 ty Wg C n [] (· =ix i) W W':=⟨dX hac.size.symm,hac.tape,hac.os,λb _ _ hbC _=>hac.block b hbC,λx hx=>hac.cells x hx,hac.pay,λ⟨a,b,x⟩=>⟨a,b,x.of_block (hac.block Wg (di sF.gm.hCW))⟩⟩;have JU:=hc0.ro (B:=B) (l:=ow i) (Cl:=λ_=>False) sF.gm.hB ai (λb Ir=>⟨ai,(sF.gm.own i hi b Ir).2,awr,awq⟩) (λ_=>False.elim)
   have acv:∀e∈es,∀x,(MemAct.ofEvent e).touch?=some x->ShN Wg x.loc/\x.kind≠.plain/\x.kind≠.said:=by
    intro e he x hx;rcases((hev e he).1 0 "").2 x hx with h1|h1|h1
    .exact h1
    .exact h1.elim
    .exact h1.1.elim
   refine Pe hb ha QD sF Lc Gz hN Ld hi hg hgo hc (by rw[JS,dD];exact .lib (.r0 uB) (λ_=>by have:=h23 rfl;omega) (hb.wp _ _ _ _ JU hwp) (λh=>ae)) (λop uJ=>?_) (λe he x hx=>⟨λad ead=>?_,λ_=>(acv e he x hx).1,by obtain⟨⟨a',e',_⟩,_⟩:=acv e he x hx;rw[e'];rfl⟩) (λe he=>(hev e he).2.2.2)
    (by rw[hde];exact deafBehind_idle (λe he=>⟨(hev e he).2.1,(hev e he).2.2.1⟩) 0) (λh=>ae) (wP.of_block (hac.block Wg (di sF.gm.hCW)))
    (λ_ ht _=>ConcN.Mode.retag (by have:=qW.same (i:=i) m' 0;rwa[uw]at this) ht) (λe=>absurd e (nr ae)) (.inr ⟨uw.symm,ae⟩)
   .obtain⟨e,he,rfl⟩:=Go.Conc.mem_ofEvents uJ;exact⟨rfl,λx hx=>.inl ⟨.inl (acv e he x hx).1,(acv e he x hx).2⟩⟩
   .obtain⟨⟨a',e',hbW⟩,_⟩:=acv e he x hx;rw[ead]at e';obtain rfl:=dQ e';rw[hac.size,hbW];exact hWs
 |k1 h=>
  rcases Goes.cases h with sU|⟨m',rfl,rH⟩
  .obtain⟨_,g',hgo,m₂,hk⟩:=sU W (RW.refl W)
   exact book hgo (.refl Wg W) wP (by intro e he;simp at he;subst he;exact .inl rfl) (by intro jx e he;exact .inl (by have:=eG he;simp at this;subst this;rfl)) (.d1 hk) ae rfl ae
    (qW.counted hi ae (.inr rfl) _ _) (λe=>absurd e (nr ae)) (.inl ⟨ae,by simp[cnt,uw]⟩)
  .obtain⟨g',W',es,hgo,⟨rfl,rfl⟩,uB⟩:=rH W (RW.refl W);exact idle hgo (.k1 uB) rfl ae ae
 |d1 h=>
  rcases Goes.cases h with sU|⟨m',rfl,rH⟩
  .obtain⟨_,xe⟩:=sU W (RW.refl W);have hc1:cnt (D i)=1:=by simp[cnt,uw]
   have hV1:1<=Vc j D:=by have:=le_sumTo (f:=λx=>cnt (D x)) hi;simp only[Vc];omega
   have df2:∀jx e,(#[rd (stA Wg),wr (stA Wg)]:Array Event)[jx]?=some e->(MemAct.ofEvent e).touch?=none\/0<deafBehind 1 ((#[rd (stA Wg),wr (stA Wg)]:Array Event).extract 0 jx):=by
    intro jx e he
    match jx,he with
    |0,_=>exact .inr auC
    |1,_=>exact .inr (by simp[deafBehind,rd])
    |jx+2,he=>simp at he
   have hq0:∀q,cnt (⟨1,q,1⟩:WD)=0:=λ_=>rfl
   have opq:∀q,OpenSt j D->OpenSt j (upd D i ⟨1,q,1⟩):=λq h a ha=>by
    by_cases e:a=i
    .subst e;rw[upd_same];simp
    .rw[upd_ne D _ e];exact h a ha
   cases qW with
   |opn h1 h2 h3=>
    obtain⟨u,hu⟩:∃u,Vc j D+pend tag=u+1:=⟨Vc j D+pend tag-1,ae⟩;rw[hu]at wP;have BB:WgAt ty Wg W (((u:Nat)+1)*KK+((0:Nat):Int)) 0:=mP;obtain⟨g',hgo,_,hq⟩:=xe u 0 ae ae BB;obtain⟨q,hq⟩:=hq ae;have hv':Vc j (upd D i ⟨1,q,1⟩)+pend tag=u:=awm;refine book hgo (aside_setCell W (stA Wg) _) (wP.setSt _) bk_rw df2 (.quit hq) ae rfl ae ?_ (λe=>absurd e (nr ae)) (.inl ⟨ae,lq⟩);have e:((u:Nat):Int)*KK+((0:Nat):Int)=((Vc j (upd D i ⟨1,q,1⟩)+pend tag:Nat):Int)*KK:=by rw[hv'];simp
    rw[e];exact .opn h1 (opq q h2) (λvs ev=>by have:=h3 vs ev;omega)
   |reg h1 h2 h3=>
    obtain⟨u,hu⟩:∃u,Vc j D=u+1:=⟨Vc j D-1,ae⟩;rw[hu]at wP;have BB:WgAt ty Wg W (((u:Nat)+1)*KK+((1:Nat):Int)) 0:=mP;obtain⟨g',hgo,hl,hq⟩:=xe u 1 ae ae BB;by_cases hv0:u=0
    .subst hv0;obtain⟨m₂,hk⟩:=hl ⟨rfl,rfl⟩;refine book hgo (aside_setCell W (stA Wg) _) (wP.setSt _) bk_rw df2 (.d2 hk) ae rfl ae ?_ (λe=>absurd e (nr ae)) (.inl ⟨ae,lq⟩)
     have aeo:∀a,a<j->a≠i->(D a).stage=1:=λa ha e=>by have c0:=others_uncounted hi hu hc1 a ha e;have:=h2 a ha;simp only[cnt]at c0;split at c0<;>omega
     have:=ConcN.Mode.last (j:=j) (D:=upd D i ⟨4,m₂,1⟩) (tag:=tag) i h1 hi auK (λa ha e=>auL);exact axa
    .obtain⟨q,hq⟩:=hq ae;have hv':Vc j (upd D i ⟨1,q,1⟩)=u:=awm;refine book hgo (aside_setCell W (stA Wg) _) (wP.setSt _) bk_rw df2 (.quit hq) ae rfl ae ?_ (λe=>absurd e (nr ae)) (.inl ⟨ae,lq⟩);have e:((u:Nat):Int)*KK+((1:Nat):Int)=((Vc j (upd D i ⟨1,q,1⟩):Nat):Int)*KK+1:=by rw[hv'];simp
     rw[e];exact .reg h1 (opq q h2) ae
   |last L _ h2 h3 h4=>
    by_cases e:i=L
    .subst e;omega
    .have:=h4 i hi e;omega
   |sema h2=>have:=h2 i hi;omega
   |fin _ h2=>have:=h2 i hi;omega
  .obtain⟨g',W',es,hgo,⟨rfl,rfl⟩,uB⟩:=rH W (RW.refl W);exact idle hgo (.d1 uB) rfl ae ae
 |d2 h=>
  rcases Goes.cases h with sU|⟨m',rfl,rH⟩
  .obtain⟨_,hx⟩:=sU W (RW.refl W);obtain⟨hW3,aeo,rfl,rfl⟩:=qW.isLast hi ae;simp only[uw]at wP;obtain⟨g',hgo,m₂,hk⟩:=hx mP;refine book hgo (.refl Wg W) wP bk_rd (by intro jx e he;match jx,he with|0,_=>exact .inr auC|jx+1,he=>simp at he) (.d3 hk) ae rfl ae ?_ (λe=>absurd e (nr ae)) (.inl ⟨ae,lq⟩);have:=ConcN.Mode.last (j:=j) (D:=upd D i ⟨3,m₂,1⟩) (tag:=tag) i hW3 hi auK (λa ha e=>auL);exact axa
  .obtain⟨g',W',es,hgo,⟨rfl,rfl⟩,uB⟩:=rH W (RW.refl W);exact idle hgo (.d2 uB) rfl ae ae
 |d3 h=>
  rcases Goes.cases h with sU|⟨m',rfl,rH⟩
  .obtain⟨_,hx⟩:=sU W (RW.refl W);obtain⟨hW3,aeo,rfl,rfl⟩:=qW.isLast hi ae;simp only[uw]at wP;obtain⟨g',hgo,m₂,hk⟩:=hx mP;refine book hgo (aside_setCell W (stA Wg) _) (wP.setSt 0) (by intro e he;simp at he;subst he;exact bk_cell _ _ rfl) (by intro jx e he;match jx,he with|0,_=>exact .inr auC|jx+1,he=>simp at he) (.d4 hk) ae rfl ae ?_ (λe=>absurd e (nr ae)) (.inl ⟨ae,lq⟩);have:=ConcN.Mode.last (j:=j) (D:=upd D i ⟨2,m₂,1⟩) (tag:=tag) i hW3 hi auK (λa ha e=>auL);exact axa
  .obtain⟨g',W',es,hgo,⟨rfl,rfl⟩,uB⟩:=rH W (RW.refl W);exact idle hgo (.d3 uB) rfl ae ae
 |d4 h=>
  rcases Goes.cases h with sU|⟨m',rfl,rH⟩
  .obtain⟨_,hmw,hx⟩:=sU W (RW.refl W);obtain⟨hW3,aeo,rfl,rfl⟩:=qW.isLast hi ae;simp only[uw]at wP;obtain⟨g',hgo,q,hq⟩:=hx mP
   have EE:g'.status=.running:=by
    cases q with
    |zero=>exact absurd hq.2 au
    |succ q=>exact hq.elim (λx=>absurd x.2 au) (λx=>x.1)
   refine bookG hgo (aside_setCell W (smA Wg) _) (wP.setSm 1) (es:=semEvents (smA Wg)) bk_sem ?_ (.quit hq) ae oU ae ?_ (λe=>absurd e (nr ae)) (.inl ⟨ae,lq⟩)
   .intro jx e he
    match jx,he with
    |0,he=>simp[semEvents]at he;subst he;exact .inl rfl
    |1,_=>exact .inr oU
    |2,_=>exact .inr oU
    |3,he=>simp[semEvents]at he;subst he;exact .inl rfl
    |jx+4,he=>simp[semEvents]at he
   .intro tag' ht hw;have hnb:=hw hmw EE
    have e3:tag'=.w3:=by
     rcases ht with rfl|⟨_,rfl⟩
     .cases tag'<;>first|rfl|exact hW3.elim|exact absurd rfl hnb
     .rfl
    subst e3;simp only[aF]
    exact .sema λa ha=>by
     by_cases e:a=i
     .subst e;rw[upd_same]
     .rw[upd_ne D _ e];exact aeo a ha e
  .obtain⟨g',W',es,hgo,⟨rfl,rfl⟩,uB⟩:=rH W (RW.refl W);exact idle hgo (.d4 uB) rfl ae ae
 |quit h=>
  cases m with
  |zero=>rw[h.1]at sJ;cases sJ
  |succ q=>
   rcases h with⟨hf,_⟩|⟨_,g',es,anj,rH,hq⟩
   .rw[hf]at sJ;cases sJ
   .have IG:∀e∈es,Bk Wg e:=λe he=>bk_of_mute (anj e he)
    have O4:∀jx e,es[jx]?=some e->(MemAct.ofEvent e).touch?=none\/0<deafBehind dd (es.extract 0 jx):=λjx e he=>.inl (touch_mute (anj e (eG he)))
    refine book (rH W) (.refl Wg W) wP IG O4 (.quit hq) ae rfl ae (by have:=qW.same (i:=i) q (deafBehind dd es);rwa[uw]at this) (λe=>(DY e).app λi' r _ JQ hr=>?_) (.inr ⟨rfl,ae⟩);by_cases e':i'=i
    .subst e';exact hr.book hdk _ _ IG O4
    .exact hr.appOther g_of_ofEvents ae
end
end Go.Gh
namespace Go.Gh
open Go.Conc Go.ConcN
open Go.ConcR (KK WgAt stA smA rd wr mk Payload DC0 g_of_ofEvents Bk ofEvent_loc_mark ofEvent_cell ofEvent_mk)
variable [Payload][qV][rQ][yw]
section
variable {P:Program}{ty:TypeId}{Wg C n B:Nat}{M:Nat->Prop}{WP:Nat->Value->World->Prop}{K:List Nat->Goroutine->World->Prop}{N:Nat}
 {gs:Array Goroutine} {W W':World} {sl:Option (Nat×Nat)} {j:Nat} {D:Nat->WD} {ix:Nat->Nat} {ow:Nat->List Nat} {tag:CTag} {r f0 d0:Nat} {a:Goroutine} {t:Trace} {st sm:Int} {l0 ids:List Nat}
omit [Payload][qV][rQ][yw]in
theorem QW{b:Addr}{wr:Bool}{x:Touch}(hx:(MemAct.ofEvent ⟨.cell b,wr,false⟩).touch?=some x):x.loc=.cell b/\x.write=wr:=by rw[ofEvent_cell]at hx;simp only[MemAct.touch?,gy]at hx;subst hx;exact⟨rfl,rfl⟩
theorem stepW(hb:O_ Wg C n B M WP K)(S_:N<2147483648)(ha:gs[0]?=some a)(QD:MS P ty Wg C n B M WP K ids l0 tag r f0 d0 a W)(sF:Cm P ty Wg C n B M WP j gs W t D ix ow l0 d0)
  (wP:WgAt ty Wg W st sm) (qW:ConcN.Mode j D tag st sm) (DY:tag=.ret->MM Wg j t) (Lc:∀i,rQ.el<=i->i<j->ix i∈ids) (Gz:∀x∈ids,∃i,rQ.el<=i/\i<j/\ix i=x) (hN:j+r=N) (aje:j+pend tag<=N)
  {i:Nat} (Ld:rQ.el<=i) (hi:i<j) {g:Goroutine} (hg:gs[i+1]?=some g) (sJ:g.status=.running):
  ∃m₁ ops μ',runT P (crowd gs W sl) (i+1)=(.next m₁,ops)/\Lt2 μ' (phi N (Vc j D) tag+Ssum j D,f0+2*Fsum j D)/\Iv P ty Wg C n B M WP K N μ' m₁ (t++ops):=by
 obtain⟨g₁,hg₁,hs⟩:=sF.wk i Ld hi;obtain rfl:g=g₁:=by rw[hg]at hg₁;exact eU hg₁
 generalize uw:(D i).stage=s at hs;generalize hfu:(D i).fuel=m at hs;generalize hde:(D i).deaf=dd at hs;cases hs with
 |lib h1 h2 h3 h4=>exact ae4 hb S_ ha QD sF wP qW DY Lc Gz hN aje Ld hi hg sJ h1 h2 h3 h4 uw ae hde
 |comp h=>
  rename_i m;have JU:=He (Wg:=Wg) (C:=C) (n:=n) (B:=B) W (ow i) (· =ix i);rcases Goes.cases h with sU|⟨m',rfl,rH⟩
  .obtain⟨_,v,hwp,apw,hG⟩:=sU _ JU;exact ae4 hb S_ ha QD sF wP qW DY Lc Gz hN aje Ld hi hg sJ (.r0 (hG W ⟨_,_,wP⟩ apw)) (λ_=>ak _) hwp (λh=>ae) uw ae hde
  .obtain⟨g',w',es,hgo,hD,uB⟩:=rH _ JU;obtain⟨apx,apy⟩:=Ha P (book W.heap.size (ow i)) (w:=W) hgo;have hWs:Wg<W.heap.size:=aK sF.gm.hW sF.gm.hB;have ajg:Wg∉ow i:=λhx=>by have:=(sF.gm.own i hi _ hx).1;have:=sF.gm.hW;omega
   have hc:P8 ty Wg C n (ow i) (· =ix i) W (w'.out W.output):=hD.chg rfl ajg hWs sF.gm.hCW;have aoM:Ro Wg C n B (· =ix i) w' (gw (w'.out W.output) (ow i++fresh W.heap.size (w'.out W.output).heap.size)):=ai9 rfl apy;have tr:∀a b c,Ro Wg C n B (· =ix i) a b->Ro Wg C n B (· =ix i) b c->Ro Wg C n B (· =ix i) a c:=λ_ _ _ a b=>Ro.trans a b
   have Le:WgAt ty Wg (w'.out W.output) st sm:=by exact axm
   have hdf:deafBehind (D i).deaf es=0:=by rw[hde];exact deafBehind_idle (λe he=>by obtain⟨b,wr,rfl,_,_⟩:=hD.evs e he;exact⟨ai,ai⟩) 0
   refine Pe hb ha QD sF Lc Gz hN Ld hi hg apx hc (.comp (m:=m') (bK tr uB aoM)) (λop uJ=>?_) (λe he=>?_) (λe he=>?_) hdf (λh=>ae) Le
    (λ_ ht _=>ConcN.Mode.retag (by have:=qW.same (i:=i) (m'+24) 0;rwa[uw]at this) ht) (λe=>absurd e (qW.not_ret hi ae)) (.inr ⟨uw.symm,ae⟩)
   .obtain⟨e,he,rfl⟩:=Go.Conc.mem_ofEvents uJ;obtain⟨b,wr,rfl,qE,akR⟩:=hD.evs e he;refine⟨rfl,λx hx=>?_⟩;obtain⟨hl,hw⟩:=QW hx;rw[hl,hw];rcases akR with h1|h1|⟨i',rfl,h1⟩|⟨h1,h2,h3,h4,h5⟩
    .rw[yK]at h1;exact .inr (.inl ⟨ae,ae,b,rfl,.inl (by rw[gz,upd_same];exact aub _ h1)⟩)
    .exact .inr (.inl ⟨ae,ae,b,rfl,.inl (by rw[gz,upd_same];exact List.mem_append_right _ (D8.2 ⟨h1,qE⟩))⟩)
    .exact .inr (.inl ⟨ae,ae,_,rfl,.inr (by rw[gz,h1])⟩)
    .exact .inr (.inr ⟨⟨ae,b,rfl,h1,h2,h3,h5⟩,h4⟩)
   .exact axV
   .obtain⟨b,wr,rfl,_,_⟩:=hD.evs e he;simp
theorem Zd(hb:O_ Wg C n B M WP K)(ha:gs[0]?=some a)(sF:Cm P ty Wg C n B M WP j gs W t D ix ow l0 d0)(Lc:∀i,rQ.el<=i->i<j->ix i∈ids)(Gz:∀x∈ids,∃i,rQ.el<=i/\i<j/\ix i=x)(hN:j+r=N)
  {a':Goroutine} {es:Array Event} {tag':CTag} {f' dd:Nat} {st' sm':Int} (hgo:stepG P true a W=.go a' W' es) (hc:P8 ty Wg C n l0 (λi=>¬M i) W W')
  (DX:∀op∈MemOp.ofEvents 0 a.frame.fn a.frame.place es,Ok0 (GV Wg) (Wl C j ix ow) (RdF Wg C B) j op) (uy:∀e∈es,UN Wg W'.heap.size (MemAct.ofEvent e)) (hnr:∀e∈es,e.loc≠.mark (.release (stA Wg)))
  (hdd:deafBehind d0 es=dd) (Jp:MS P ty Wg C n B M WP K ids (l0++fresh W.heap.size W'.heap.size) tag' r f' dd a' W') (wP:WgAt ty Wg W' st' sm') (qW:ConcN.Mode j D tag' st' sm')
  (DY:tag'=.ret->MM Wg j (t++MemOp.ofEvents 0 a.frame.fn a.frame.place es))
  (qE:phi N (Vc j D) tag'<phi N (Vc j D) tag\/(phi N (Vc j D) tag'=phi N (Vc j D) tag/\f'<f0)):
  ∃m₁ ops μ',runT P (crowd gs W sl) 0=(.next m₁,ops)/\Lt2 μ' (phi N (Vc j D) tag+Ssum j D,f0+2*Fsum j D)/\Iv P ty Wg C n B M WP K N μ' m₁ (t++ops):=by
 subst hdd;have sJ:=runT_crowd_go (P:=P) (sl:=sl) (i:=0) ha (by simpa using hgo);refine⟨_,_,(phi N (Vc j D) tag'+Ssum j D,f'+2*Fsum j D),sJ,?_,_,W',sl,j,D,ix,ow,tag',r,f',_,a',st',sm',_,ids,rfl,get_map_set_same _ _ _ (by rw[sF.size];omega),Jp,sF.step0 hb.wp hc DX uy hnr (aa9 hgo),wP,qW,DY,Lc,Gz,hN,rfl⟩;rcases qE with h|⟨h1,h2⟩
 .exact Prod.Lex.left _ _ ae
 .rw[h1];exact Prod.Lex.right _ ae
theorem UO(hb:O_ Wg C n B M WP K)(ha:gs[0]?=some a)(sF:Cm P ty Wg C n B M WP j gs W t D ix ow l0 0)(wP:WgAt ty Wg W st sm)(qW:ConcN.Mode j D tag st sm)(Lc:∀i,rQ.el<=i->i<j->ix i∈ids)(Gz:∀x∈ids,∃i,rQ.el<=i/\i<j/\ix i=x)(hN:j+r=N)(hne:tag≠.ret)
  {Stop:Goroutine->World->Prop} {m':Nat} (rH:∀w₁,Ro Wg C n B (λi=>¬M i) (gw W l0) w₁->∃g' w' es,stepG P true a w₁=.go g' w' es/\Dg Wg C n B (λi=>¬M i) w₁ w' es/\Goes P true (Ro Wg C n B (λi=>¬M i)) (Dg Wg C n B (λi=>¬M i)) Stop m' g' w')
  (Jp:∀{g':Goroutine}{W':World}{l:List Nat},Goes P true (Ro Wg C n B (λi=>¬M i)) (Dg Wg C n B (λi=>¬M i)) Stop m' g' (gw W' l)->MS P ty Wg C n B M WP K ids l tag r m' 0 g' W') (hf:m'<f0):
  ∃m₁ ops μ',runT P (crowd gs W sl) 0=(.next m₁,ops)/\Lt2 μ' (phi N (Vc j D) tag+Ssum j D,f0+2*Fsum j D)/\Iv P ty Wg C n B M WP K N μ' m₁ (t++ops):=by
 obtain⟨g',w',es,hgo,hD,uB⟩:=rH _ (He W l0 _);obtain⟨apx,apy⟩:=Ha P (book W.heap.size l0) (w:=W) hgo;have hWs:Wg<W.heap.size:=aK sF.gm.hW sF.gm.hB;have ajg:Wg∉l0:=λhx=>by have:=(sF.gm.C_ _ hx).1;have:=sF.gm.hW;omega
 have hc:P8 ty Wg C n l0 (λi=>¬M i) W (w'.out W.output):=hD.chg rfl ajg hWs sF.gm.hCW;have aoM:Ro Wg C n B (λi=>¬M i) w' (gw (w'.out W.output) (l0++fresh W.heap.size (w'.out W.output).heap.size)):=ai9 rfl apy;have tr:∀a b c,Ro Wg C n B (λi=>¬M i) a b->Ro Wg C n B (λi=>¬M i) b c->Ro Wg C n B (λi=>¬M i) a c:=λ_ _ _ a b=>Ro.trans a b
 have Le:WgAt ty Wg (w'.out W.output) st sm:=by exact axm
 refine Zd hb ha sF Lc Gz hN apx hc (λop uJ=>?_) (λe he=>?_) (λe he=>?_) (deafBehind_idle (λe he=>?_) 0) (Jp (bK tr uB aoM)) Le qW (λe=>absurd e hne) (.inr ⟨rfl,hf⟩)
 .obtain⟨e,he,rfl⟩:=Go.Conc.mem_ofEvents uJ;obtain⟨b,wr,rfl,qE,akR⟩:=hD.evs e he;refine⟨rfl,λx hx=>.inr ?_⟩;obtain⟨hl,hw⟩:=QW hx;rw[hl,hw];have hB:=sF.gm.hB;have hWB:=sF.gm.hW;have hCB:=sF.gm.hC;rcases akR with h1|h1|⟨i',rfl,h1⟩|⟨h1,h2,h3,h4,h5⟩
  .rw[yK]at h1;have xq:=sF.gm.C_ _ h1;refine⟨Zb ae (λho=>by have:=sF.gm.old _ ho;omega),λk k1 kj ⟨_,_,b',e',hz⟩=>?_,λ_ k k1 kj ⟨_,b',e',z1,z2,z3,_⟩=>?_⟩
   .obtain rfl:=dQ e';rcases hz with hz|hz
    .exact sF.gm.aa7 (k-1) _ ae hz h1
    .rw[hz]at xq;dsimp only at xq;omega
   .obtain rfl:=dQ e';omega
  .have h1':W.heap.size<=b.block:=h1;refine⟨Zb ae (λho=>by have:=sF.gm.old _ ho;omega),λk k1 kj ⟨_,_,b',e',hz⟩=>?_,λ_ k k1 kj ⟨_,b',e',z1,z2,z3,_⟩=>?_⟩
   .obtain rfl:=dQ e';have:W.heap.size<=b.block:=h1;rcases hz with hz|hz
    .have:=sF.gm.own (k-1) ae _ hz;omega
    .rw[hz]at this;exact awN
   .obtain rfl:=dQ e';have:W.heap.size<=b.block:=h1;omega
  .refine⟨Zb sF.gm.hCW (λho=>(sF.gm.old _ ho).2 rfl),λk k1 kj ⟨_,_,b',e',hz⟩=>?_,λ_ k k1 kj ⟨_,b',e',z1,z2,z3,_⟩=>?_⟩
   .obtain rfl:=dQ e';rcases hz with hz|hz
    .have:=sF.gm.own (k-1) ae _ hz;exact awN
    .have e2:i'=ix (k-1):=by injection hz
     exact h1 (e2▸sF.gm.ixM (k-1) ae ae)
   .obtain rfl:=dQ e';exact z3 rfl
  .refine⟨Zb h2 h5,λk k1 kj ⟨_,_,b',e',hz⟩=>?_,λVV=>by rw[h4]at VV;cases VV⟩
   .obtain rfl:=dQ e';rcases hz with hz|hz
    .have:=sF.gm.own (k-1) ae _ hz;omega
    .rw[hz]at h3;exact h3 rfl
 .exact axV
 .obtain⟨b,wr,rfl,_,_⟩:=hD.evs e he;simp
 .obtain⟨b,wr,rfl,_,_⟩:=hD.evs e he;exact⟨ai,ai⟩
end
end Go.Gh
namespace Go.Gh
open Go.Conc Go.ConcN
open Go.ConcR (KK WgAt stA smA rd wr mk Payload DC0 g_of_ofEvents Bk ofEvent_loc_mark ofEvent_cell ofEvent_mk)
variable [Payload][qV][rQ][yw]
section
variable {P:Program}{ty:TypeId}{Wg C n B:Nat}{M:Nat->Prop}{WP:Nat->Value->World->Prop}{K:List Nat->Goroutine->World->Prop}{N:Nat}
 {gs:Array Goroutine} {W W':World} {sl:Option (Nat×Nat)} {j:Nat} {D:Nat->WD} {ix:Nat->Nat} {ow:Nat->List Nat} {tag tag':CTag} {r f0 f' d0 dd:Nat} {a a':Goroutine} {t:Trace} {st sm st' sm':Int} {l0 ids:List Nat} {es:Array Event}
def UQ(P:Program)(ty:TypeId)(Wg C n B:Nat)(M:Nat->Prop)(WP:Nat->Value->World->Prop)(K:List Nat->Goroutine->World->Prop)(N:Nat)(gs:Array Goroutine)(W:World)(sl:Option (Nat×Nat))(t:Trace)(μ:Nat×Nat):Prop:=
 ∃m₁ ops μ',runT P (crowd gs W sl) 0=(.next m₁,ops)/\Lt2 μ' μ/\Iv P ty Wg C n B M WP K N μ' m₁ (t++ops)
theorem UQ.mono{μ μ':Nat×Nat}(h:UQ P ty Wg C n B M WP K N gs W sl t μ)(hl:Lt2 μ μ'):UQ P ty Wg C n B M WP K N gs W sl t μ':=
 let⟨m₁,ops,ν,h1,h2,h3⟩:=h;⟨m₁,ops,ν,h1,lt2_trans h2 hl,h3⟩
structure XP(P:Program)(ty:TypeId)(Wg C n B:Nat)(M:Nat->Prop)(WP:Nat->Value->World->Prop)(K:List Nat->Goroutine->World->Prop)(N j r:Nat)(gs:Array Goroutine)(W:World)(t:Trace)(D:Nat->WD)(ix:Nat->Nat)(ow:Nat->List Nat)(l0 ids:List Nat)(d0:Nat)(a:Goroutine)(st sm:Int):Prop where
 hb:O_ Wg C n B M WP K
 S_:N<2147483648
 ha:gs[0]?=some a
 sF:Cm P ty Wg C n B M WP j gs W t D ix ow l0 d0
 wP:WgAt ty Wg W st sm
 Lc:∀i,rQ.el<=i->i<j->ix i∈ids
 Gz:∀x∈ids,∃i,rQ.el<=i/\i<j/\ix i=x
 hN:j+r=N
theorem XP.hWs(h:XP P ty Wg C n B M WP K N j r gs W t D ix ow l0 ids d0 a st sm):Wg<W.heap.size:=aK h.sF.gm.hW h.sF.gm.hB
theorem XP.ro(h:XP P ty Wg C n B M WP K N j r gs W t D ix ow l0 ids d0 a st sm)(hAs:Aside Wg W W')(hl:WgLive ty Wg W'):Ro Wg C n B (λi=>¬M i) (gw W l0) (gw W' l0):=
 (P8.of_wg (n:=n) (lo:=[]) (Cm:=λ_=>False) hAs hl h.sF.gm.hCW).ro h.sF.gm.hB ai (λb Ir=>⟨ai,(h.sF.gm.C_ b Ir).2,by have:=(h.sF.gm.C_ b Ir).1;have:=h.sF.gm.hC;omega,by have:=(h.sF.gm.C_ b Ir).1;have:=h.sF.gm.hW;omega⟩) (λ_ _=>id)
theorem XP.bkp(h:XP P ty Wg C n B M WP K N j r gs W t D ix ow l0 ids d0 a st sm)(hgo:stepG P true a W=.go a' W' es)(hAs:Aside Wg W W')(Le:WgAt ty Wg W' st' sm')(IG:∀e∈es,Bk Wg e)(hdd:deafBehind d0 es=dd)
  (Jp:MS P ty Wg C n B M WP K ids l0 tag' r f' dd a' W') (Ig:ConcN.Mode j D tag' st' sm') (hne:tag'≠.ret) (qE:phi N (Vc j D) tag'<phi N (Vc j D) tag\/(phi N (Vc j D) tag'=phi N (Vc j D) tag/\f'<f0)):
  UQ P ty Wg C n B M WP K N gs W sl t (phi N (Vc j D) tag+Ssum j D,f0+2*Fsum j D):=
 Zd h.hb h.ha h.sF h.Lc h.Gz h.hN hgo (P8.of_wg hAs ⟨_,_,Le⟩ h.sF.gm.hCW) (aoL IG) (ajd IG (by rw[hAs.size];exact h.hWs)) (norel_of_Bk IG) hdd
  (by rw[hAs.size,En,dD];exact Jp) Le Ig (λe=>absurd e hne) qE
theorem XP.say(h:XP P ty Wg C n B M WP K N j r gs W t D ix ow l0 ids d0 a st sm){e:Event}(hgo:stepG P true a W=.go a' W #[e])(ht:∀x,(MemAct.ofEvent e).touch?=some x->∃ad:Addr,x.loc=.cell ad/\ad.block=Wg/\x.kind=.said)
  (hne:e.loc≠.mark .disable/\e.loc≠.mark .enable/\e.loc≠.mark (.release (stA Wg)))
  (Jp:MS P ty Wg C n B M WP K ids l0 tag' r f' d0 a' W) (Ig:ConcN.Mode j D tag' st sm) (DY:tag'=.ret->MM Wg j (t++MemOp.ofEvents 0 a.frame.fn a.frame.place #[e]))
  (qE:phi N (Vc j D) tag'<phi N (Vc j D) tag\/(phi N (Vc j D) tag'=phi N (Vc j D) tag/\f'<f0)):
  UQ P ty Wg C n B M WP K N gs W sl t (phi N (Vc j D) tag+Ssum j D,f0+2*Fsum j D):=by
 refine Zd h.hb h.ha h.sF h.Lc h.Gz h.hN hgo (.refl W) (λop uJ=>?_) (λe' Np=>?_) (λe' Np=>?_) (deafBehind_idle (λe' Np=>?_) d0)
  av5 h.wP Ig DY qE
 .obtain⟨e',Np,rfl⟩:=Go.Conc.mem_ofEvents uJ;obtain rfl:e'=e:=oJ;refine⟨rfl,λx hx=>.inl ?_⟩;obtain⟨ad,h1,h2,h3⟩:=ht x hx;exact⟨.inl ⟨ad,h1,h2⟩,by rw[h3];simp⟩
 .obtain rfl:e'=e:=oJ;intro x hx;obtain⟨ad,h1,h2,h3⟩:=ht x hx;refine⟨λad' e1=>?_,λe1=>(by rw[h3]at e1;cases e1),by rw[h1];rfl⟩;rw[h1]at e1;obtain rfl:=dQ e1;rw[h2];exact h.hWs
 .obtain rfl:e'=e:=oJ;exact hne.2.2
 .obtain rfl:e'=e:=oJ;exact⟨hne.1,hne.2.1⟩
theorem XP.idle(h:XP P ty Wg C n B M WP K N j r gs W t D ix ow l0 ids d0 a st sm)(hgo:stepG P true a W=.go a' W #[])(Jp:MS P ty Wg C n B M WP K ids l0 tag r f' d0 a' W)(qW:ConcN.Mode j D tag st sm)
  (DY:tag=.ret->MM Wg j t) (hf:f'<f0):UQ P ty Wg C n B M WP K N gs W sl t (phi N (Vc j D) tag+Ssum j D,f0+2*Fsum j D):=by
 refine Zd h.hb h.ha h.sF h.Lc h.Gz h.hN hgo (.refl W) (λop uJ=>?_) ai ai rfl av5 h.wP qW (λe=>(DY e).app λi r _ _ hr=>hr.appOther g_of_ofEvents ae) (.inr ⟨rfl,hf⟩);obtain⟨e',Np,rfl⟩:=Go.Conc.mem_ofEvents uJ;simp at Np
theorem XP.kd1{m mm:Nat}{gT:Goroutine}(h:XP P ty Wg C n B M WP K N j (r+1) gs W t D ix ow l0 ids 0 a st sm)(qW:ConcN.Mode j D (.sp (r+1) 6) st sm)(hG:Goes P true (RL ty Wg) DC0 (AKd P ty Wg gT) m a W)
  (h0:Goes P true (Ro Wg C n B (λi=>¬M i)) (Dg Wg C n B (λi=>¬M i)) (AtGo P ty Wg C n B M WP (Sp P ty Wg C n B M WP K r) ids) mm gT (gw W l0)):
  UQ P ty Wg C n B M WP K N gs W sl t (phi N (Vc j D) (.sp (r+1) 6)+Ssum j D,m+2*Fsum j D):=by
 rcases Goes.cases hG with sU|⟨m',rfl,rH⟩
 .obtain⟨_,a',hgo,m₂,hk⟩:=sU W (BI ty Wg W);exact h.bkp hgo (.refl Wg W) h.wP bk_dis rfl (.a1 hk h0) (qW.reopen trivial trivial rfl ai) ai (.inl dH)
 .obtain⟨a',w',es,hgo,⟨rfl,rfl⟩,uB⟩:=rH W (BI ty Wg W);exact h.idle hgo (.kd1 uB h0) qW ai ae
theorem XP.c2{m:Nat}(h:XP P ty Wg C n B M WP K N j (r+1) gs W t D ix ow l0 ids 0 a st sm)(qW:ConcN.Mode j D (.sp (r+1) 1) st sm)
  (h0:Goes P true (Ro Wg C n B (λi=>¬M i)) (Dg Wg C n B (λi=>¬M i)) (AtGo P ty Wg C n B M WP (Sp P ty Wg C n B M WP K r) ids) m a (gw W l0)):
  UQ P ty Wg C n B M WP K N gs W sl t (phi N (Vc j D) (.sp (r+1) 1)+Ssum j D,m+2*Fsum j D):=by
 rcases Goes.cases h0 with sU|⟨m',rfl,rH⟩
 .obtain⟨_,a',child,idx,l,hsp,_,hid,hM,hl,⟨m₂,hwk⟩,qH⟩:=sU _ (He W l0 _);obtain⟨asO,_⟩:=Sj P (book W.heap.size l0) (w:=W) hsp;have asP:stepG P true a W=.spawn a' child W #[]:=asO;obtain⟨ho,rfl,rfl,_⟩:=qW.open_inv trivial;have Fg:∀b∈l,b∈l0:=λb Ir=>(yK W l0 b).1 (hl b Ir)
  have hl0:∀b,b∈l0.filter (λb=>decide (b∉l))↔b∈l0/\b∉l:=λb=>ai
  have NG:=qH (l0.filter (λb=>decide (b∉l))) (λb=>by rw[yK];exact hl0 b);have aqu:Sp P ty Wg C n B M WP K r (idx::ids) a' (gw W (l0.filter (λb=>decide (b∉l)))):=NG;have EE:=runT_crowd_spawn (P:=P) (sl:=sl) (i:=0) h.ha (by simpa using asP);rw[h.sF.size]at EE
  have Xe:=h.sF.spawn (a':=a') (x:={g:=0,fn:=a.frame.fn,pos:=a.frame.place,act:=.go (j+1)}) (y:={g:=j+1,fn:=child.frame.fn,pos:=a.frame.place,act:=.start}) ⟨rfl,rfl⟩ ⟨rfl,rfl⟩
   Fg hl0 (λi Ld hi e=>hid (by rw[<-(show ix i=idx from e)];exact h.Lc i Ld hi)) hM (show Wk P ty Wg C n B WP idx m₂ child (gw W l)from hwk)
  have eV:Vc (j+1) (upd D j ⟨7,m₂+24,0⟩)=Vc j D+1:=by simp only[Vc,sumTo,upd_same];rw[sumTo_upd_out D _ cnt (ak _)];rfl
  have eS:Ssum (j+1) (upd D j ⟨7,m₂+24,0⟩)=Ssum j D+7:=by simp only[Ssum,sumTo,upd_same];rw[sumTo_upd_out D _ WD.stage (ak _)]
  have ho':OpenSt (j+1) (upd D j ⟨7,m₂+24,0⟩):=λi hi=>by
   by_cases e:i=j
   .subst e;rw[upd_same];simp
   .rw[upd_ne D _ e];exact ho i ae
  have ha':((gs.setIfInBounds 0 a').push child)[0]?=some a':=by rw[auq (by simp[h.sF.size]),<-kV];simp[h.sF.size]
  have aqv:∀i,rQ.el<=i->i<j+1->upd ix j idx i∈idx::ids:=λi Ld hi=>by
   by_cases e:i=j
   .subst e;rw[upd_same];simp
   .rw[upd_ne ix _ e];exact kH _ (h.Lc i Ld ae)
  have aqw:∀x∈idx::ids,∃i,rQ.el<=i/\i<j+1/\upd ix j idx i=x:=λx hx=>by
   rcases dA.1 hx with rfl|hx
   .exact⟨j,h.sF.gm.hel,ae,upd_same _ _ _⟩
   .obtain⟨i,Ld,hi,e⟩:=h.Gz x hx;exact⟨i,Ld,ae,by rw[upd_ne ix _ ae];exact e⟩
  have est:∀tag',pend tag'=0->((Vc j D+pend (.sp (r+1) 1):Nat):Int)*KK=((Vc (j+1) (upd D j ⟨7,m₂+24,0⟩)+pend tag':Nat):Int)*KK:=λtag' hp=>by rw[eV,hp];simp[pend]
  have hN:=h.hN;cases r with
  |zero=>
   obtain⟨m₃,hk⟩:=aqu
   refine⟨_,_,(phi N (Vc (j+1) (upd D j ⟨7,m₂+24,0⟩)) (.sp 0 7)+Ssum (j+1) (upd D j ⟨7,m₂+24,0⟩),m₃+2*Fsum (j+1) (upd D j ⟨7,m₂+24,0⟩)),EE,Prod.Lex.left _ _ dH,
    _,W,sl,j+1,_,_,_,.sp 0 7,0,m₃,0,a',_,_,_,idx::ids,rfl,ha',.c0 hk,Xe,h.wP,?_,ai,aqv,aqw,ae,rfl⟩
   rw[est (.sp 0 7) rfl];exact .opn trivial ho' ai
  |succ r'=>
   obtain⟨m₃,hk⟩:=aqu
   refine⟨_,_,(phi N (Vc (j+1) (upd D j ⟨7,m₂+24,0⟩)) (.sp (r'+1) 7)+Ssum (j+1) (upd D j ⟨7,m₂+24,0⟩),m₃+2*Fsum (j+1) (upd D j ⟨7,m₂+24,0⟩)),EE,Prod.Lex.left _ _ dH,
    _,W,sl,j+1,_,_,_,.sp (r'+1) 7,r'+1,m₃,0,a',_,_,_,idx::ids,rfl,ha',.c1 hk,Xe,h.wP,?_,ai,aqv,aqw,ae,rfl⟩
   rw[est (.sp (r'+1) 7) rfl];exact .opn trivial ho' ai
 .exact UO h.hb h.ha h.sF h.wP qW h.Lc h.Gz h.hN ai rH (λhh=>.c2 hh) ae
theorem XP.kd{m:Nat}{gT:Goroutine}{An:Goroutine->World->Prop}(h:XP P ty Wg C n B M WP K N j 0 gs W t D ix ow l0 ids 0 a st sm)(qW:ConcN.Mode j D .kd st sm)(O8:∀g w,An g w->g.status=.running)
  (Nv:∀g w,An g w->∃m,Goes P true (RL ty Wg) DC0 (WW1 P ty Wg gT An) m g w) (hG:Goes P true (RL ty Wg) DC0 (WKd P ty Wg An) m a W) (hK:K ids gT (gw W l0)):
  UQ P ty Wg C n B M WP K N gs W sl t (phi N (Vc j D) .kd+Ssum j D,m+2*Fsum j D):=by
 have hN:=h.hN;have hVj:=Vc_le j D;rcases Goes.cases hG with sU|⟨m',rfl,rH⟩
 .obtain⟨_,a',hgo,m₂,hk⟩:=sU W (BI ty Wg W);exact h.bkp hgo (.refl Wg W) h.wP bk_dis rfl (.anch O8 Nv hk hK) (qW.reopen trivial trivial rfl ai) ai (.inl dH)
 .obtain⟨a',w',es,hgo,⟨rfl,rfl⟩,uB⟩:=rH W (BI ty Wg W);exact h.idle hgo (.kd O8 Nv uB hK) qW ai ae
theorem XP.w1{m:Nat}{gT:Goroutine}{An:Goroutine->World->Prop}(h:XP P ty Wg C n B M WP K N j 0 gs W t D ix ow l0 ids 1 a st sm)(qW:ConcN.Mode j D .w1 st sm)(O8:∀g w,An g w->g.status=.running)
  (Nv:∀g w,An g w->∃m,Goes P true (RL ty Wg) DC0 (WW1 P ty Wg gT An) m g w) (hG:Goes P true (RL ty Wg) DC0 (WW1 P ty Wg gT An) m a W) (hK:K ids gT (gw W l0)):
  UQ P ty Wg C n B M WP K N gs W sl t (phi N (Vc j D) .w1+Ssum j D,m+2*Fsum j D):=by
 rcases Goes.cases hG with sU|⟨m',rfl,rH⟩
 .obtain⟨_,xe⟩:=sU W (BI ty Wg W);obtain⟨ho,rfl,rfl,_⟩:=qW.open_inv trivial;have hV:=Vc_le j D;have hN:=h.hN;have S_:=h.S_;have wP:=h.wP;obtain⟨a',hgo,h0,hne⟩:=xe (Vc j D) ae auu;by_cases hv:Vc j D=0
  .obtain⟨m₂,hk⟩:=h0 hv;refine h.bkp hgo (.refl Wg W) h.wP bk_rd rfl (tag':=.ke) (.ke hk hK) ?_ ai (.inl dH);have e:((Vc j D+pend .w1:Nat):Int)*KK=0:=by rw[hv];simp[pend]
   rw[e];exact .fin trivial (allQuit_of ho hv)
  .obtain⟨m₂,hk⟩:=hne hv;exact h.bkp hgo (.refl Wg W) h.wP bk_rd rfl (tag':=.w2 (Vc j D)) (.w2 O8 Nv hk hK) (qW.reopen trivial trivial rfl (λvs e=>by cases e;omega)) ai (.inl dH)
 .obtain⟨a',w',es,hgo,⟨rfl,rfl⟩,uB⟩:=rH W (BI ty Wg W);exact h.idle hgo (.w1 O8 Nv uB hK) qW ai ae
omit [Payload][qV][rQ][yw]in
theorem UR{Wg:Nat}{x:Touch}:((MemAct.ofEvent (mk (.read (smA Wg)))).touch?=some x->∃ad:Addr,x.loc=.cell ad/\ad.block=Wg/\x.kind=.said)/\((MemAct.ofEvent (mk (.write (smA Wg)))).touch?=some x->∃ad:Addr,x.loc=.cell ad/\ad.block=Wg/\x.kind=.said):=by
 refine⟨λh=>?_,λh=>?_⟩<;>
 .simp only[mk,MemAct.ofEvent,MemAct.touch?,gy]at h;subst h;exact⟨_,rfl,rfl,rfl⟩
theorem arw(h:XP P ty Wg C n B M WP K N j r gs W t D ix ow l0 ids d0 a st sm)(QD:MS P ty Wg C n B M WP K ids l0 tag r f0 d0 a W)(qW:ConcN.Mode j D tag st sm)(DY:tag=.ret->MM Wg j t)(sJ:a.status=.running):
  (tag=.ret/\K ids a (gw W l0))\/UQ P ty Wg C n B M WP K N gs W sl t (phi N (Vc j D) tag+Ssum j D,f0+2*Fsum j D):=by
 have hVj:=Vc_le j D;have hN:=h.hN;have S_:=h.S_;have rl:=BI ty Wg W;have ank:WgLive ty Wg W:=⟨_,_,h.wP⟩;have tr:∀a b c,Ro Wg C n B (λi=>¬M i) a b->Ro Wg C n B (λi=>¬M i) b c->Ro Wg C n B (λi=>¬M i) a c:=λ_ _ _ a b=>Ro.trans a b
 cases QD with
 |c1 h0=>
  refine .inr ?_;rcases Goes.cases h0 with sU|⟨m',rfl,rH⟩
  .obtain⟨_,gT,mm,asQ,hG⟩:=sU _ (He W l0 _);obtain⟨m₂,hk⟩:=asQ W ank;exact(h.kd1 (qW.reopen trivial trivial rfl ai) hk hG).mono (Prod.Lex.left _ _ dH)
  .exact UO h.hb h.ha h.sF h.wP qW h.Lc h.Gz h.hN ai rH (λhh=>.c1 hh) ae
 |kd1 hG h0=>exact .inr (h.kd1 qW hG h0)
 |a1 hG h0=>
  refine .inr ?_;rcases Goes.cases hG with sU|⟨m',rfl,rH⟩
  .obtain⟨_,xe⟩:=sU W rl;obtain⟨ho,rfl,rfl,_⟩:=qW.open_inv trivial;have wP:=h.wP;obtain⟨a',hgo,hz,hnz⟩:=xe (Vc j D) ae auu;have e:∀r s,s<=3->(((Vc j D:Nat):Int)+1)*KK=((Vc j D+pend (.sp r s):Nat):Int)*KK:=λr s hs=>by simp[pend,hs]
   have JU:=h.ro (aside_setCell W (stA Wg) (.int .u64 ((((Vc j D:Nat):Int)+1)*KK))) ⟨_,_,h.wP.setSt _⟩;by_cases hv:Vc j D=0
   .obtain⟨m₂,hk⟩:=hz hv;refine h.bkp hgo (aside_setCell W (stA Wg) _) (h.wP.setSt _) bk_rw rfl (.rd1 hk (bK tr h0 JU)) ?_ ai (.inl dH);rw[e _ 3 ae];exact .opn trivial ho ai
   .obtain⟨m₂,hk⟩:=hnz hv;refine h.bkp hgo (aside_setCell W (stA Wg) _) (h.wP.setSt _) bk_rw rfl (.ke1 hk (bK tr h0 JU)) ?_ ai (.inl dH);rw[e _ 2 ae];exact .opn trivial ho ai
  .obtain⟨a',w',es,hgo,⟨rfl,rfl⟩,uB⟩:=rH W rl;exact h.idle hgo (.a1 uB h0) qW ai ae
 |rd1 hG h0=>
  refine .inr ?_;rcases Goes.cases hG with sU|⟨m',rfl,rH⟩
  .obtain⟨_,a',hgo,m₂,hk⟩:=sU W rl;exact h.say hgo (λx hx=>UR.1 hx) ⟨fO,fO,fO⟩ (.ke1 hk h0) (qW.reopen trivial trivial rfl ai) ai (.inl dH)
  .obtain⟨a',w',es,hgo,⟨rfl,rfl⟩,uB⟩:=rH W rl;exact h.idle hgo (.rd1 uB h0) qW ai ae
 |ke1 hG h0=>
  refine .inr ?_;rcases Goes.cases hG with sU|⟨m',rfl,rH⟩
  .obtain⟨_,a',hgo,m₂,hk⟩:=sU W rl;exact h.bkp hgo (.refl Wg W) h.wP bk_en rfl (.en1 hk h0) (qW.reopen trivial trivial rfl ai) ai (.inl dH)
  .obtain⟨a',w',es,hgo,⟨rfl,rfl⟩,uB⟩:=rH W rl;exact h.idle hgo (.ke1 uB h0) qW ai ae
 |en1 hG h0=>
  refine .inr ?_;rcases Goes.cases hG with sU|⟨m',rfl,rH⟩
  .obtain⟨_,rfl⟩:=sU W rl;exact(h.c2 qW h0).mono (Prod.Lex.right _ ae)
  .obtain⟨a',w',es,hgo,⟨rfl,rfl⟩,uB⟩:=rH W rl;exact h.idle hgo (.en1 uB h0) qW ai ae
 |c2 h0=>exact .inr (h.c2 qW h0)
 |c0 h0=>
  refine .inr ?_;rcases Goes.cases h0 with sU|⟨m',rfl,rH⟩
  .obtain⟨_,gT,⟨An,O8,Nv,aqx⟩,hK⟩:=sU _ (He W l0 _);obtain⟨m₂,hk⟩:=aqx W ank;exact(h.kd (qW.reopen trivial trivial rfl ai) O8 Nv hk hK).mono (Prod.Lex.left _ _ dH)
  .exact UO h.hb h.ha h.sF h.wP qW h.Lc h.Gz h.hN ai rH (λhh=>.c0 hh) ae
 |kd O8 Nv hG hK=>exact .inr (h.kd qW O8 Nv hG hK)
 |anch O8 Nv hG hK=>
  refine .inr ?_;rcases Goes.cases hG with sU|⟨m',rfl,rH⟩
  .obtain⟨m₂,hk⟩:=Nv a W (sU W rl);exact(h.w1 (qW.reopen trivial trivial rfl ai) O8 Nv hk hK).mono (Prod.Lex.left _ _ dH)
  .obtain⟨a',w',es,hgo,⟨rfl,rfl⟩,uB⟩:=rH W rl;exact h.idle hgo (.anch O8 Nv uB hK) qW ai ae
 |w1 O8 Nv hG hK=>exact .inr (h.w1 qW O8 Nv hG hK)
 |@w2 vs _ _ _ _ _ O8 Nv hG hK=>
  refine .inr ?_;rcases Goes.cases hG with sU|⟨m',rfl,rH⟩
  .obtain⟨_,xe⟩:=sU W rl;obtain⟨ho,rfl,rfl,xG⟩:=qW.open_inv trivial;obtain⟨hle,h1⟩:=xG vs rfl;have wP:=h.wP;obtain⟨asR,arx⟩:=xe (Vc j D) ae auu;by_cases e:Vc j D=vs
   .obtain⟨a',hgo,m₂,hk⟩:=asR e;have JU:=h.ro (aside_setCell W (stA Wg) (.int .u64 (((Vc j D:Nat):Int)*KK+1))) ⟨_,_,h.wP.setSt _⟩;exact h.bkp hgo (aside_setCell W (stA Wg) _) (h.wP.setSt _) bk_rw rfl (.wr hk (h.hb.k _ _ _ _ JU hK)) (.reg trivial ho ae) ai (.inl dH)
   .obtain⟨a',hgo,m₂,hk⟩:=arx e;exact h.bkp hgo (.refl Wg W) h.wP bk_rd rfl (.anch O8 Nv hk hK) (qW.reopen trivial trivial rfl ai) ai (.inl dH)
  .obtain⟨a',w',es,hgo,⟨rfl,rfl⟩,uB⟩:=rH W rl;exact h.idle hgo (.w2 O8 Nv uB hK) qW ai ae
 |wr hG hK=>
  refine .inr ?_;rcases Goes.cases hG with sU|⟨m',rfl,rH⟩
  .obtain⟨_,a',hgo,m₂,h60,hk⟩:=sU W rl;exact h.say hgo (λx hx=>UR.2 hx) ⟨fO,fO,fO⟩ (.w3 hk hK) qW ai (.inr ⟨rfl,ae⟩)
  .obtain⟨a',w',es,hgo,⟨rfl,rfl⟩,uB⟩:=rH W rl;exact h.idle hgo (.wr uB hK) qW ai ae
 |w3 hG hK=>
  refine .inr ?_;rcases Goes.cases hG with sU|⟨m',rfl,rH⟩
  .obtain⟨_,ary,O7,afr⟩:=sU W rl;have wP:=h.wP;cases qW with
   |opn h1 _ _=>exact h1.elim
   |reg h1 h2 h3=>exact h.bkp (O7 ⟨_,wP⟩) (.refl Wg W) wP ai rfl (.blk sU hK) (.reg trivial h2 h3) ai (.inr ⟨rfl,ae⟩)
   |last L h1 h2 h3 h4=>exact h.bkp (O7 ⟨_,wP⟩) (.refl Wg W) wP ai rfl (.blk sU hK) (.last L trivial h2 h3 h4) ai (.inr ⟨rfl,ae⟩)
   |sema h2=>
    obtain⟨a',hgo,m₂,hk⟩:=afr wP;have JU:=h.ro (aside_setCell W (smA Wg) (.int .u32 0)) ⟨_,_,h.wP.setSm 0⟩;exact h.bkp hgo (aside_setCell W (smA Wg) _) (wP.setSm 0) bk_sem oU (.w4 hk (h.hb.k _ _ _ _ JU hK)) (.fin trivial h2) ai (.inl dH)
   |fin h1 _=>exact h1.elim
  .obtain⟨a',w',es,hgo,⟨rfl,rfl⟩,uB⟩:=rH W rl;exact h.idle hgo (.w3 uB hK) qW ai ae
 |blk hG hK=>simp at sJ
 |w4 hG hK=>
  refine .inr ?_;rcases Goes.cases hG with sU|⟨m',rfl,rH⟩
  .obtain⟨_,hx⟩:=sU W rl;obtain⟨hq,rfl,rfl⟩:=qW.fin_inv trivial;obtain⟨a',hgo,m₂,hk⟩:=hx h.wP;exact h.bkp hgo (.refl Wg W) h.wP bk_rd rfl (.ke hk hK) (.fin trivial hq) ai (.inl dH)
  .obtain⟨a',w',es,hgo,⟨rfl,rfl⟩,uB⟩:=rH W rl;exact h.idle hgo (.w4 uB hK) qW ai ae
 |ke hG hK=>
  refine .inr ?_;rcases Goes.cases hG with sU|⟨m',rfl,rH⟩
  .obtain⟨_,a',hgo,m₂,hk⟩:=sU W rl;obtain⟨hq,rfl,rfl⟩:=qW.fin_inv trivial;exact h.bkp hgo (.refl Wg W) h.wP bk_en rfl (.acq hk hK) (.fin trivial hq) ai (.inl dH)
  .obtain⟨a',w',es,hgo,⟨rfl,rfl⟩,uB⟩:=rH W rl;exact h.idle hgo (.ke uB hK) qW ai ae
 |acq hG hK=>
  refine .inr ?_;rcases Goes.cases hG with sU|⟨m',rfl,rH⟩
  .obtain⟨_,a',hgo,m₂,hk⟩:=sU W rl;obtain⟨hq,rfl,rfl⟩:=qW.fin_inv trivial;refine h.say hgo (λx hx=>jV) ⟨fO,fO,fO⟩ (.ret hk hK) (.fin trivial hq) (λ_=>?_) (.inl dH);have e1:MemOp.ofEvents 0 a.frame.fn a.frame.place #[mk (.acquire (stA Wg))]=#[{g:=0,fn:=a.frame.fn,pos:=a.frame.place,act:=.mark (.acquire (stA Wg))}]:=by rw[ofEvents_eq];simp[ofEvent_mk]
   have hy:(t++#[({g:=0,fn:=a.frame.fn,pos:=a.frame.place,act:=.mark (.acquire (stA Wg))}:MemOp)])[t.size]?=some {g:=0,fn:=a.frame.fn,pos:=a.frame.place,act:=.mark (.acquire (stA Wg))}:=ai;refine⟨t.size,by rw[e1,act?_of hy],by rw[e1];simp[Trace.g?],by rw[e1];exact⟨0,by simp[Trace.g?],by rw[deaf_old (ak _)];exact h.sF.deaf0⟩,λi Ld hi=>?_⟩;obtain⟨r,hr,hrs⟩:=h.sF.rel i Ld hi (by rw[hq i hi];omega);exact⟨r,hr.appOther g_of_ofEvents ae,lt_of_act? hr.act,hrs⟩
  .obtain⟨a',w',es,hgo,⟨rfl,rfl⟩,uB⟩:=rH W rl;exact h.idle hgo (.acq uB hK) qW ai ae
 |ret hG hK=>
  rcases Goes.cases hG with sU|⟨m',rfl,rH⟩
  .obtain⟨_,rfl⟩:=sU W rl;exact .inl ⟨rfl,hK⟩
  .obtain⟨a',w',es,hgo,⟨rfl,rfl⟩,uB⟩:=rH W rl;exact .inr (h.idle hgo (.ret uB hK) qW DY ae)
end
end Go.Gh
namespace Go.Gh
open Go.Conc Go.ConcN
open Go.ConcR (KK WgAt stA smA rd wr mk Payload DC0 g_of_ofEvents)
variable [Payload][qV][rQ][yw]
omit [Payload][qV][rQ][yw]in
theorem agj(act:MemAct):∃B,act.low B:=by
 cases act with
 |access e=>
  obtain⟨loc,_,_⟩:=e;cases loc with
  |cell a=>exact⟨a.block+1,dm _⟩
  |obj r=>exact⟨r+1,dm _⟩
  |_=>exact⟨0,trivial⟩
 |mark m=>
  cases m with
  |acquire a=>exact⟨a.block+1,dm _⟩
  |release a=>exact⟨a.block+1,dm _⟩
  |releaseMerge a=>exact⟨a.block+1,dm _⟩
  |read a=>exact⟨a.block+1,dm _⟩
  |write a=>exact⟨a.block+1,dm _⟩
  |_=>exact⟨0,trivial⟩
 |go _=>exact⟨0,trivial⟩
 |start=>exact⟨0,trivial⟩
 |send c _=>exact⟨c+1,dm _⟩
 |sendDone c _=>exact⟨c+1,dm _⟩
 |recv c _ _=>exact⟨c+1,dm _⟩
 |recvDone c _=>exact⟨c+1,dm _⟩
 |close c=>exact⟨c+1,dm _⟩
 |recvClosed c=>exact⟨c+1,dm _⟩
omit [Payload][qV][rQ][yw]in
theorem FI(t:Trace):∃B,∀op∈t,op.act.low B:=by
 have key:∀l:List MemOp,∃B,∀op∈l,op.act.low B:=by
  intro l
  induction l with
  |nil=>exact⟨0,ai⟩
  |cons x l ih=>
   obtain⟨B,hB⟩:=ih;obtain⟨B',hB'⟩:=agj x.act;refine⟨max B B',λop uJ=>?_⟩;rcases dA.1 uJ with rfl|uJ
   .exact MemAct.low_mono (nK _ _) hB'
   .exact MemAct.low_mono (nM _ _) (hB op uJ)
 obtain⟨B,hB⟩:=key t.toList;exact⟨B,λop uJ=>hB op (by simpa using uJ)⟩
section
variable {P:Program}{ty:TypeId}{Wg C n B:Nat}{M:Nat->Prop}{WP:Nat->Value->World->Prop}{K:List Nat->Goroutine->World->Prop}{N:Nat}{Post:Value->World->Prop}
 {gs:Array Goroutine} {W W':World} {sl:Option (Nat×Nat)} {j:Nat} {D:Nat->WD} {ix:Nat->Nat} {ow:Nat->List Nat} {tag:CTag} {r f0 d0:Nat} {a:Goroutine} {t:Trace} {st sm:Int} {l0 ids:List Nat}
omit [yw][rQ]in
theorem WS.running{idx s m d:Nat}{l:List Nat}{g:Goroutine}(h:WS P ty Wg C n B WP idx l s m d g W)(hs:s≠1):g.status=.running:=by
 cases h with
 |comp h=>exact Goes.running (λ_ _ x=>x.1) (gw W l) (He W l _) h
 |lib h _ _ _=>exact h.running_of hs
omit [yw][rQ]in
theorem MS.amb(h:MS P ty Wg C n B M WP K ids l0 tag r f0 d0 a W):pend tag<=r:=by cases h<;>simp[pend]
theorem agk(ha:gs[0]?=some a)(QD:MS P ty Wg C n B M WP K ids l0 tag r f0 d0 a W)(sF:Cm P ty Wg C n B M WP j gs W t D ix ow l0 d0)(qW:ConcN.Mode j D tag st sm):∃(i:Nat)(g:Goroutine),gs[i]?=some g/\g.status=.running:=by
 have away:∀i,(D i).stage≠1->rQ.el<=i:=λi h=>Nat.le_of_not_lt λqE=>let⟨_,_,h1,_⟩:=sF.eld i qE;h h1
 rcases QD.status with⟨hs,_⟩|⟨_,rfl⟩
 .exact⟨0,a,ha,hs⟩
 .cases qW with
  |opn h1 _ _=>exact h1.elim
  |reg _ _ h3=>
   obtain⟨i,hi,h5⟩:=exists_counted h3;obtain⟨g,hg,hs⟩:=sF.wk i (away i ae) hi;exact⟨i+1,g,hg,hs.running ae⟩
  |last L _ h2 h3 _=>
   obtain⟨g,hg,hs⟩:=sF.wk L (away L ae) h2;exact⟨L+1,g,hg,hs.running ae⟩
  |fin h1 _=>exact h1.elim
theorem ajh(ha:gs[0]?=some a)(QD:MS P ty Wg C n B M WP K ids l0 tag r f0 d0 a W)(sF:Cm P ty Wg C n B M WP j gs W t D ix ow l0 d0):∀g∈gs,awake g:=by
 intro g hg tm;obtain⟨i,hi⟩:=ou.1 hg;cases i with
 |zero=>
  rw[ha]at hi;cases hi;rcases QD.status with⟨hs,_⟩|⟨hs,_⟩<;>rw[hs]<;>simp
 |succ i=>
  have qE:i<j:=by have:=(bf.1 hi).1;rw[sF.size]at this;omega
  rcases aQ i rQ.el with he|he
  .obtain⟨g',uB,_,hs⟩:=sF.eld i he;exact axG
  .obtain⟨g',uB,hs⟩:=sF.wk i he qE;exact axG
theorem Cm.aji(h:Cm P ty Wg C n B M WP j gs W t D ix ow l0 d0){i:Nat}(hi:i<rQ.el){g g':Goroutine}{fn:FuncId}{pos:String}{es:Array Event}{q:Nat}(hm:∀e∈es,Event.mute e=true)(hq:QuitsD P q (deafBehind (D i).deaf es) g'):
  Cm P ty Wg C n B M WP j ((gs.map (woken P g g' W)).setIfInBounds (i+1) g') W (t++MemOp.ofEvents (i+1) fn pos es) (upd D i ⟨1,q,deafBehind (D i).deaf es⟩) ix ow l0 d0:=by
 have hel:=h.gm.hel;have IG:∀e∈es,Go.ConcR.Bk Wg e:=λe he=>Go.ConcR.bk_of_mute (hm e he)
 have hne:Ol (MemOp.ofEvents (i+1) fn pos es):=λop uJ=>by obtain⟨e,he,rfl⟩:=Go.Conc.mem_ofEvents uJ;exact .inr (.inr (touch_mute (hm e he)))
 refine⟨jE,λi' Fg JQ=>?_,λi' Fg=>?_,h.past.app hne,h.over.app hne,h.ct.appW h.gm.apart ae ae (ajc IG),h.norel.app (norel_of (norel_of_Bk IG)),pV,
  Tm h.low (ak _) (λop uJ=>by obtain⟨e,he,rfl⟩:=Go.Conc.mem_ofEvents uJ;exact D9 (touch_mute (hm e he))),av6,λi' JQ=>?_,λi' Fg JQ uw=>?_,h.pay,h.gm,h.out,h.os⟩
 .obtain⟨x,hx,hsx⟩:=h.wk i' Fg JQ;refine⟨x,au0,?_⟩;rw[upd_ne D _ ae];exact hsx
 .by_cases e:i'=i
  .subst e;refine⟨g',get_map_set_same _ _ _ pJ,?_⟩;rw[upd_same];exact⟨rfl,hq⟩
  .obtain⟨x,hx,FU,SX⟩:=h.eld i' Fg;refine⟨x,auZ,?_⟩;rw[upd_ne D _ e];exact⟨FU,SX⟩
 .by_cases e:i'=i
  .subst e;rw[Deaf_own,h.deafW i' JQ,upd_same]
  .exact axB
 .rw[upd_ne D _ ae]at uw;exact axh
theorem aji(ha:gs[0]?=some a)(QD:MS P ty Wg C n B M WP K ids l0 tag r f0 d0 a W)(sF:Cm P ty Wg C n B M WP j gs W t D ix ow l0 d0)
  (wP:WgAt ty Wg W st sm) (qW:ConcN.Mode j D tag st sm) (DY:tag=.ret->MM Wg j t) (Lc:∀i,rQ.el<=i->i<j->ix i∈ids) (Gz:∀x∈ids,∃i,rQ.el<=i/\i<j/\ix i=x) (hN:j+r=N)
  {i:Nat} (hi:i<rQ.el) {g:Goroutine} (hg:gs[i+1]?=some g) (sJ:g.status=.running):
  ∃m₁ ops μ',runT P (crowd gs W sl) (i+1)=(.next m₁,ops)/\Lt2 μ' (phi N (Vc j D) tag+Ssum j D,f0+2*Fsum j D)/\Iv P ty Wg C n B M WP K N μ' m₁ (t++ops):=by
 obtain⟨x,hx,uw,hq⟩:=sF.eld i hi;obtain rfl:g=x:=by rw[hg]at hx;exact eU hx
 have VG:i<j:=by have:=sF.gm.hel;omega
 cases hf:(D i).fuel with
 |zero=>rw[hf]at hq;rw[hq.1]at sJ;cases sJ
 |succ q=>
  rw[hf]at hq;rcases hq with⟨h,_⟩|⟨_,g',es,hm,rH,hq'⟩
  .rw[h]at sJ;cases sJ
  obtain⟨tag',f',Jp,hf',aen,_⟩:=QD.wokenBy g g';have acw:=runT_crowd_go (P:=P) (sl:=sl) (i:=i+1) hg (by simpa using rH W);have e1:=sumTo_upd D (⟨1,q,deafBehind (D i).deaf es⟩:WD) cnt VG;have e2:=sumTo_upd D (⟨1,q,deafBehind (D i).deaf es⟩:WD) WD.stage VG;have e3:=sumTo_upd D (⟨1,q,deafBehind (D i).deaf es⟩:WD) WD.fuel VG
  have Ig:ConcN.Mode j (upd D i ⟨1,q,deafBehind (D i).deaf es⟩) tag st sm:=by have:=qW.same (i:=i) q (deafBehind (D i).deaf es);rwa[uw]at this
  refine⟨_,_,(phi N (Vc j (upd D i ⟨1,q,deafBehind (D i).deaf es⟩)) tag'+Ssum j (upd D i ⟨1,q,deafBehind (D i).deaf es⟩),f'+2*Fsum j (upd D i ⟨1,q,deafBehind (D i).deaf es⟩)),acw,?_,
   _,W,sl,j,upd D i ⟨1,q,deafBehind (D i).deaf es⟩,ix,ow,tag',r,f',d0,woken P g g' W a,st,sm,l0,ids,rfl,avS,Jp,sF.aji hi hm hq',wP,Ig.retag aen,λe=>?_,Lc,Gz,hN,rfl⟩
  .rw[phi_retag N _ aen];simp only[Vc,Ssum,Fsum]at*;have ec:cnt (⟨1,q,deafBehind (D i).deaf es⟩:WD)=cnt (D i):=by simp only[cnt,uw]
   have ev:(sumTo j λa=>cnt (upd D i ⟨1,q,deafBehind (D i).deaf es⟩ a))=sumTo j λa=>cnt (D a):=ae
   have rJ:(sumTo j λa=>(upd D i ⟨1,q,deafBehind (D i).deaf es⟩ a).stage)=sumTo j λa=>(D a).stage:=ae
   rw[ev,rJ];refine Prod.Lex.right _ ?_;omega
  .have e':tag=.ret:=by
    rcases aen with rfl|⟨_,rfl⟩
    .exact e
    .cases e
   exact(DY e').app λi' r hl _ hr=>hr.appOther g_of_ofEvents ae
theorem agl(sF:Cm P ty Wg C n B M WP j gs W t D ix ow l0 0)(DY:MM Wg j t){B':Nat}(hB:∀op∈t,op.act.low B'):Past (GV Wg) B' t:=by
 obtain⟨q,h1,h2,h3,h4⟩:=DY
 have hg:∀i g,t.g? i=some g->rQ.el<g->∃r,RelBy (stA Wg) t g r/\r<q/\rQ.ts<=r:=by intro i g hgi hne;obtain⟨op,ho,rfl⟩:=bT.1 hgi;have:=sF.ct.gs i op ho;have:=h4 (op.g-1) ae ae;rwa[show op.g-1+1=op.g by omega]at this
 have edge:∀{g r:Nat},RelBy (stA Wg) t g r->r<q->rQ.ts<=r->HappensBefore t r q:=λhr hrq hrs=>.single (.inr ⟨.marked hrq (.inr hr.act) h1 (λk hk _=>sF.norel k ae),hr.heard,h3⟩)
 have aqy:t.HandedOver:=by
  intro i g hgi hne hc;rcases aQ rQ.el g with he|he
  .obtain⟨r,hr,hrq,hrs⟩:=hg i g hgi he;have hle:i<=r:=Nat.le_of_not_lt λqE=>hr.after i qE hgi hc
   rcases aQ i r with qE|VF
   .exact⟨q,h2,.trans (.single (.inl ⟨qE,g,hgi,hr.g⟩)) (edge hr hrq hrs)⟩
   .obtain rfl:i=r:=ae;exact⟨q,h2,edge hr hrq hrs⟩
  .exact sF.over i g hgi hne he hc
 have hq0:∃z,t[q]?=some z/\z.g=0:=by obtain⟨z,hz,hz'⟩:=bT.1 h2;exact⟨z,hz,hz'⟩
 refine⟨sF.ct.nr,λi x hx hm=>?_,aqy,sF.deaf0,hB⟩;obtain⟨op,ho,hox⟩:=touch_of hx;by_cases hz:op.g=0
 .exact .inl (by have:=knows_own ho;rwa[hz]at this)
 .rcases aQ rQ.el op.g with he|he
  .obtain⟨r,hr,hrq,hrs⟩:=hg i op.g auE he;obtain⟨z,w_,wH⟩:=hq0;rcases aQ r i with qE|VF
   .have hnc:=hr.after i qE auE;refine .inr ?_
    have hat:x.kind=.atomic:=by
     by_cases hk:x.kind=.atomic
     .exact hk
     .exact absurd ⟨x,hx,hm,.inl hk⟩ hnc
    exact⟨.inl ((sF.low op (eG ho) x hox).2.1 he hat),hat⟩
   .refine .inl ⟨q,z,w_,wH,.inr ?_⟩;rcases aQ i r with qE|atH
    .exact .trans (.single (.inl ⟨qE,op.g,auE,hr.g⟩)) (edge hr hrq hrs)
    .obtain rfl:i=r:=ae;exact edge hr hrq hrs
  .exact sF.past i op x ho hox hm hz he
theorem Ze(sF:Cm P ty Wg C n B M WP j gs W t D ix ow l0 0)(hq:AllQuit j D):Leavers P t gs (λi=>(D (i-1)).fuel):=by
 refine⟨λi g hi hg=>?_,λi hi=>?_⟩
 .obtain⟨i',rfl⟩:∃i',i=i'+1:=⟨i-1,ae⟩;have qE:i'<j:=by have:=(bf.1 hg).1;rw[sF.size]at this;omega
  rw[sF.deafW i' qE];rcases aQ i' rQ.el with he|he
  .obtain⟨g',uB,_,xn⟩:=sF.eld i' he;rw[hg]at uB;cases uB;exact xn
  .obtain⟨g',uB,xn⟩:=sF.wk i' he qE;rw[hg]at uB;cases uB;rw[hq i' qE]at xn;exact xn.quits
 .exact Deaf_absent λa op ha e=>by have:=sF.ct.gs a op ha;rw[sF.size]at hi;omega
structure Jq(Shun:Loc->Prop)(sz e:Nat)(t:Trace):Prop where
 quiet:Quiet Shun t
 gs:∀op∈t,op.g<=e
 low:∀op∈t,∀x,op.act.touch?=some x->(∀ad,x.loc=.cell ad->ad.block<sz)/\(op.g≠0->x.loc.isMemory=true)
theorem agm(sF:Cm P ty Wg C n B M WP j gs W t D ix ow l0 0):Jq (GV Wg) W.heap.size j t:=
 ⟨sF.ct.quiet,λop uJ=>let⟨i,hi⟩:=ou.1 uJ;sF.ct.gs i op hi,λop uJ x hx=>⟨(sF.low op uJ x hx).1,(sF.low op uJ x hx).2.2⟩⟩
theorem XQ{q:Nat->Nat}{B₀:Nat}(ha:gs[0]?=some a)(hsz:gs.size=rQ.el+1)(hL:Leavers P t gs q)(hP:Past (GV Wg) B₀ t)(hT:Jq (GV Wg) W.heap.size rQ.el t)(hts:t.size=rQ.ts)
  (hold:∀b,qV.old b->b<B/\b≠C) (hW:Wg<B) (hC:C<B) (hCW:C≠Wg) (hB:B<=W.heap.size) (wP:WgAt ty Wg W 0 0) (apz:PayAt C n W) (hsp:Sp P ty Wg C n B M WP K N [] a (gw W []))
  (ho:W.output=yw.o0) (hos:W.os=yw.os0):
  ∃μ,Iv P ty Wg C n B M WP K (rQ.el+N) μ (crowd gs W sl) t:=by
 have kn:∀l,¬GV Wg l->Perm t 0 l:=λl hl i x hx e=>by
  obtain⟨op,ho,hox⟩:=touch_of hx;by_cases h0:op.g=0
  .have:=knows_own ho;rwa[h0]at this
  .rcases hP.known i x hx ((hT.low op (eG ho) x hox).2 h0)with h|⟨h,_⟩
   .exact h
   .exact absurd (e▸h) hl
 have gm:Gm Wg C B M rQ.el (λ_=>0) (λ_=>[]) [] W.heap.size:=⟨hW,hC,hCW,hB,λ_ _=>ai,ai,λ_ _ _ _ _ h=>absurd h ai,λ_ _ _ h=>absurd h ai,λ_ _ h _ h'=>absurd h ae,λ_ h h'=>absurd h ae,ak _,hold⟩
 have ct:CT (GV Wg) (Wl C rQ.el (λ_=>0) (λ_=>[])) (RdF Wg C B) t rQ.el:=
  ⟨hT.quiet,λk _ kj l hl=>absurd hl.1 ae,λk _ kj l hl=>absurd hl.1 ae,λl hs _=>kn l hs,λl hs _=>.of (kn l hs),hP.clean,
   λi op hi=>hT.gs op (eG hi)⟩
 have get:∀i,i<rQ.el->∃g,gs[i+1]?=some g:=λi hi=>⟨gs[i+1]' ae,kV ae⟩
 have cm:Cm P ty Wg C n B M WP rQ.el gs W t (λi=>⟨1,q (i+1),Deaf t (i+1)⟩) (λ_=>0) (λ_=>[]) [] 0:=
  ⟨hsz,λi h h'=>absurd h ae,λi hi=>let⟨g,hg⟩:=get i hi;⟨g,hg,rfl,hL.old (i+1) g ae hg⟩,λi op x hi hx hm h0 _=>(hP.known i x (by rw[touchAt_of hi];exact hx) hm),λi g hg hne _ hc=>hP.over i g hg hne hc,ct,
   λi hi e=>by obtain⟨op,uJ,_⟩:=bT.1 e;have:=lt_size_of_getElem? uJ;omega,dX hts.symm,
   λop uJ x hx=>⟨(hT.low op uJ x hx).1,λh=>by have:=hT.gs op uJ;omega,(hT.low op uJ x hx).2⟩,hP.hears,λ_ _=>rfl,λi h h'=>absurd h ae,apz,gm,ho,hos⟩
 have hV:Vc rQ.el (λi=>(⟨1,q (i+1),Deaf t (i+1)⟩:WD))=0:=by
  have:∀n,(sumTo n λa=>cnt (⟨1,q (a+1),Deaf t (a+1)⟩:WD))=0:=λn=>by
   induction n with
   |zero=>rfl
   |succ n ih=>simp only[sumTo,ih];rfl
  exact this _
 have md:∀tag,isOpen tag->pend tag=0->(∀vs,tag≠.w2 vs)->ConcN.Mode rQ.el (λi=>(⟨1,q (i+1),Deaf t (i+1)⟩:WD)) tag 0 0:=λtag h1 h2 h3=>by have:=ConcN.Mode.opn (j:=rQ.el) (D:=λi=>(⟨1,q (i+1),Deaf t (i+1)⟩:WD)) h1 (λ_ _=>ai) (λvs e=>absurd e (h3 vs));rw[h2,hV]at this;exact aww
 cases N with
 |zero=>
  obtain⟨m,hm⟩:=hsp;exact⟨_,gs,W,sl,rQ.el,_,_,_,.sp 0 7,0,m,0,a,0,0,[],[],rfl,ha,.c0 hm,cm,wP,md _ trivial rfl ai,ai,λ_ h h'=>absurd h ae,ai,rfl,rfl⟩
 |succ r=>
  obtain⟨m,hm⟩:=hsp;exact⟨_,gs,W,sl,rQ.el,_,_,_,.sp (r+1) 7,r+1,m,0,a,0,0,[],[],rfl,ha,.c1 hm,cm,wP,md _ trivial rfl ai,ai,λ_ h h'=>absurd h ae,ai,rfl,rfl⟩
end
#print axioms XQ

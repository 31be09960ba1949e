/-
  A lone run, carried over: an operation that makes no marks and no atomic accesses does the same in a world in which some blocks hold other cells, if in the one world it ends well where those blocks hold none; and it touches none of them.
-/
import GoSem.Machine.Exec
namespace Go.Lf
def NoView:Obj→Prop
  | .view a _=>a.spot.isSome=true
  | .pending .. => False
  | _=>True
def Ghost (o o':Obj):Prop:=
  (∃ a t,o = .view a t∧o' = .view ⟨0,0,some default⟩ t)∨(∃ c t,o = .pending c t∧o' = .stringIter .empty 0)
theorem Ghost.nv {o o':Obj} (h:Ghost o o'):NoView o':=by
  rcases h with ⟨a,t,_,rfl⟩ | ⟨c,t,_,rfl⟩
  · rfl
  · trivial
def HaltOk:Halt→Prop
  | .panic _=>True
  | .stuck _=>True
  | .unsupported (.initOrder _)=>False
  | .unsupported _=>True
  | _=>False
def Doomed (P:Program) {α:Type}:Sem α→Prop
  | .pure _=>False
  | .load _ _ k=>∀ v,Doomed P (k v)
  | .store _ _ _ k=>Doomed P k
  | .new _ k=>∀ r,Doomed P (k r)
  | .shape _ k=>∀ s,Doomed P (k s)
  | .freeze _ _ k=>Doomed P k
  | .frozen _ k=>∀ b,Doomed P (k b)
  | .getObj _ k=>∀ o,Doomed P (k o)
  | .setObj _ _ k=>Doomed P k
  | .choose _ k=>∀ n,Doomed P (k n)
  | .sys _ k=>∀ r,Doomed P (k r)
  | .program k=>Doomed P (k P)
  | .mark _ k=>Doomed P k
  | .halt _=>True
def OkMark (m:Mark):Prop:=m = .noRoom∨∃ f,m = .extern f
def Plain (P:Program) {α:Type}:Sem α→Prop
  | .pure _=>True
  | .load m _ k=>m = .plain∧∀ v,Plain P (k v)
  | .store m _ _ k=>m = .plain∧Plain P k
  | .new o k=>NoView o∧∀ r,Plain P (k r)
  | .shape _ k=>(∀ t n,Doomed P (k (some (t,0)))∨k (some (t,n))=k (some (t,0)))∧∀ s,Plain P (k s)
  | .freeze _ _ _=>False
  | .frozen _ k=>∀ b,Plain P (k b)
  | .getObj _ k=>(∀ o o',Ghost o o' → k o=k o' ∨ Doomed P (k o'))∧∀ o,Plain P (k o)
  | .setObj _ _ _=>False
  | .choose _ k=>∀ n,Plain P (k n)
  | .sys _ _=>False
  | .program k=>Plain P (k P)
  | .mark m k=>OkMark m∧Plain P k
  | .halt h=>HaltOk h
section
variable {P:Program} {α β:Type}
theorem Doomed.bind:∀ (s:Sem α) (f:α→Sem β),Doomed P s→Doomed P (s.bind f)
  | .pure _,_,h=>h.elim
  | .load _ _ k,f,h=>fun v=>Doomed.bind (k v) f (h v)
  | .store _ _ _ k,f,h=>Doomed.bind k f h
  | .new _ k,f,h=>fun v=>Doomed.bind (k v) f (h v)
  | .shape _ k,f,h=>fun v=>Doomed.bind (k v) f (h v)
  | .freeze _ _ k,f,h=>Doomed.bind k f h
  | .frozen _ k,f,h=>fun v=>Doomed.bind (k v) f (h v)
  | .getObj _ k,f,h=>fun v=>Doomed.bind (k v) f (h v)
  | .setObj _ _ k,f,h=>Doomed.bind k f h
  | .choose _ k,f,h=>fun v=>Doomed.bind (k v) f (h v)
  | .sys _ k,f,h=>fun v=>Doomed.bind (k v) f (h v)
  | .program k,f,h=>Doomed.bind (k P) f h
  | .mark _ k,f,h=>Doomed.bind k f h
  | .halt _,_,_=>trivial
theorem Doomed.late:∀ (s:Sem α) (f:α→Sem β),(∀ a,Doomed P (f a))→Doomed P (s.bind f)
  | .pure a,_,h=>h a
  | .load _ _ k,f,h=>fun v=>Doomed.late (k v) f h
  | .store _ _ _ k,f,h=>Doomed.late k f h
  | .new _ k,f,h=>fun v=>Doomed.late (k v) f h
  | .shape _ k,f,h=>fun v=>Doomed.late (k v) f h
  | .freeze _ _ k,f,h=>Doomed.late k f h
  | .frozen _ k,f,h=>fun v=>Doomed.late (k v) f h
  | .getObj _ k,f,h=>fun v=>Doomed.late (k v) f h
  | .setObj _ _ k,f,h=>Doomed.late k f h
  | .choose _ k,f,h=>fun v=>Doomed.late (k v) f h
  | .sys _ k,f,h=>fun v=>Doomed.late (k v) f h
  | .program k,f,h=>Doomed.late (k P) f h
  | .mark _ k,f,h=>Doomed.late k f h
  | .halt _,_,_=>trivial
theorem Plain.bind:∀ (s:Sem α) (f:α→Sem β),Plain P s→(∀ a,Plain P (f a))→Plain P (s.bind f)
  | .pure a,_,_,h=>h a
  | .load _ _ k,f,h,h'=>⟨h.1,fun v=>Plain.bind (k v) f (h.2 v) h'⟩
  | .store _ _ _ k,f,h,h'=>⟨h.1,Plain.bind k f h.2 h'⟩
  | .new _ k,f,h,h'=>⟨h.1,fun v=>Plain.bind (k v) f (h.2 v) h'⟩
  | .shape _ k,f,h,h'=>⟨fun t n=>(h.1 t n).imp (Doomed.bind _ f) (fun e=>congrArg (fun s=>Sem.bind s f) e),fun v=>Plain.bind (k v) f (h.2 v) h'⟩
  | .freeze _ _ _,_,h,_=>h.elim
  | .frozen _ k,f,h,h'=>fun v=>Plain.bind (k v) f (h v) h'
  | .getObj _ k,f,h,h'=>⟨fun o o' g=>(h.1 o o' g).imp (fun e=>congrArg (fun s=>Sem.bind s f) e) (Doomed.bind _ f),fun v=>Plain.bind (k v) f (h.2 v) h'⟩
  | .setObj _ _ _,_,h,_=>h.elim
  | .choose _ k,f,h,h'=>fun v=>Plain.bind (k v) f (h v) h'
  | .sys _ _,_,h,_=>h.elim
  | .program k,f,h,h'=>Plain.bind (k P) f h h'
  | .mark _ k,f,h,h'=>⟨h.1,Plain.bind k f h.2 h'⟩
  | .halt _,_,h,_=>h
theorem doomed_halts:∀ (s:Sem α),Doomed P s→∀ (w:World) (es:Array Event),∃ h w' es',s.runT P w es=(.halt h w',es')
  | .pure _,h,_,_=>h.elim
  | .load m a k,h,w,es=>by
    unfold Sem.runT
    cases w.cell? a with
    | some v=>exact doomed_halts (k v) (h v) _ _
    | none=>
      dsimp only
      cases w.farLoad P a (m == .atomic) with
      | ok r=>exact doomed_halts (k r.1) (h r.1) _ _
      | error e=>exact ⟨_,_,_,rfl⟩
  | .store m a v k,h,w,es=>by
    cases v <;> first
      | exact ⟨_,_,_,rfl⟩
      | (unfold Sem.runT
         cases w.cell? a with
         | some u=>
           dsimp only
           split
           · exact ⟨_,_,_,rfl⟩
           · exact doomed_halts k h _ _
         | none=>
           dsimp only
           cases w.farStore P a _ (m == .atomic) with
           | ok r=>exact doomed_halts k h _ _
           | error e=>exact ⟨_,_,_,rfl⟩)
  | .new o k,h,w,es=>doomed_halts (k w.heap.size) (h _) _ es
  | .shape r k,h,w,es=>doomed_halts (k (w.shape? r)) (h _) w es
  | .freeze a n k,h,w,es=>doomed_halts k h (w.freeze a n) es
  | .frozen a k,h,w,es=>doomed_halts (k (w.frozen? a)) (h _) w es
  | .getObj r k,h,w,es=>by
    unfold Sem.runT
    split
    · exact ⟨_,_,_,rfl⟩
    · exact doomed_halts (k _) (h _) _ _
    · exact ⟨_,_,_,rfl⟩
  | .setObj r o k,h,w,es=>by
    unfold Sem.runT
    split
    · exact ⟨_,_,_,rfl⟩
    · exact doomed_halts k h _ _
    · exact ⟨_,_,_,rfl⟩
  | .choose q k,h,w,es=>by
    unfold Sem.runT
    split
    · exact doomed_halts (k 0) (h _) _ _
    · exact doomed_halts (k _) (h _) _ _
  | .sys c k,h,w,es=>doomed_halts (k (w.sys c).1) (h _) (w.sys c).2 _
  | .program k,h,w,es=>doomed_halts (k P) h w es
  | .mark m k,h,w,es=>doomed_halts k h w _
  | .halt x,_,w,es=>⟨x,w,es,rfl⟩
end
structure Sim (X:Nat→Prop) (Y:Nat→Option Obj) (w v:World):Prop where
  size:w.heap.size=v.heap.size
  bound:∀ b,X b∨(Y b).isSome=true→b < v.heap.size
  same:∀ b,¬ X b→Y b=none→w.heap[b]? = v.heap[b]?
  gho:∀ b o,Y b=some o→∃ o',w.heap[b]? = some o∧v.heap[b]? = some o' ∧ Ghost o o'
  doc:∀ b,X b→∃ cs t fr,w.heap[b]? = some (.cells cs t fr)∧v.heap[b]? = some (.cells #[] t fr)
  nv:∀ (b:Nat) (o:Obj),v.heap[b]? = some o→NoView o
  os:w.os=v.os
  out:w.output=v.output
  str:∀ i q,w.tape (w.drawn+i) q=v.tape (v.drawn+i) q
  unf:∀ b cs t fr,X b→v.heap[b]? = some (.cells cs t fr)→fr=(0,0)
def EvP (X:Nat→Prop) (w:World) (e:Event):Prop:=
  (∃ a wr,e=⟨.cell a,wr,false⟩∧a.block < w.heap.size∧¬ X a.block)∨(∃ r wr sy,e=⟨.obj r,wr,sy⟩∧r < w.heap.size∧¬ X r)∨∃ m,OkMark m∧e=⟨.mark m,false,true⟩
section
variable {X:Nat→Prop} {Y:Nat→Option Obj} {w v:World}
theorem EvP.grow {w':World} {e:Event} (h:EvP X w e) (hs:w.heap.size≤w'.heap.size):EvP X w' e:=by
  rcases h with ⟨a,wr,h1,h2,h3⟩ | ⟨r,wr,sy,h1,h2,h3⟩ | h
  · exact .inl ⟨a,wr,h1,by omega,h3⟩
  · exact .inr (.inl ⟨r,wr,sy,h1,by omega,h3⟩)
  · exact .inr (.inr h)
theorem Sim.notX (h:Sim X Y w v) {a:Addr} {u:Value} (hc:v.cell? a=some u):¬ X a.block∧Y a.block=none∧a.block < v.heap.size:=by
  unfold World.cell? at hc
  refine ⟨fun hx => ?_,?_,?_⟩
  · obtain ⟨cs,t,fr,_,h2⟩:=h.doc _ hx
    rw [h2] at hc
    dsimp only at hc
    split at hc <;> simp at hc
  · cases hy:Y a.block with
    | none=>rfl
    | some o=>
      obtain ⟨o',_,h2,hg⟩:=h.gho _ _ hy
      rw [h2] at hc
      rcases hg with ⟨b,t,_,rfl⟩ | ⟨c,t,_,rfl⟩ <;> cases hc
  · cases hb:v.heap[a.block]? with
    | none=>rw [hb] at hc;simp at hc
    | some o=>exact (Array.getElem?_eq_some_iff.1 hb).1
theorem Sim.cell (h:Sim X Y w v) {a:Addr} (hx:¬ X a.block) (hy:Y a.block=none):w.cell? a=v.cell? a:=by
  unfold World.cell?
  rw [h.same _ hx hy]
theorem Sim.frozen (h:Sim X Y w v) (a:Addr):w.frozen? a=v.frozen? a:=by
  unfold World.frozen?
  by_cases hx:X a.block
  · obtain ⟨cs,t,fr,h1,h2⟩:=h.doc _ hx
    rw [h1,h2]
  · cases hy:Y a.block with
    | some o=>
      obtain ⟨o',h1,h2,hg⟩:=h.gho _ _ hy
      rw [h1,h2]
      rcases hg with ⟨b,t,rfl,rfl⟩ | ⟨c,t,rfl,rfl⟩ <;> rfl
    | none=>rw [h.same _ hx hy]
theorem seen_shut {P:Program} {v:World} {b:Addr} (hb:b.spot.isSome=true) (t:TypeId) (a:Addr) (m:Bool):∃ e,v.seen P b t a m = .error e:=by
  unfold World.seen
  rw [hb,Bool.or_true]
  exact ⟨_,rfl⟩
theorem viewLoad_shut {P:Program} {v:World} {b:Addr} (hb:b.spot.isSome=true) (t:TypeId) (a:Addr) (m:Bool):∃ e,v.viewLoad P b t a m = .error e:=by
  obtain ⟨e,he⟩:=seen_shut (P:=P) (v:=v) hb t a m
  unfold World.viewLoad
  rw [he]
  exact ⟨_,rfl⟩
theorem viewStore_shut {P:Program} {v:World} {b:Addr} (hb:b.spot.isSome=true) (t:TypeId) (a:Addr) (u:Value) (m:Bool):∃ e,v.viewStore P b t a u m = .error e:=by
  obtain ⟨e,he⟩:=seen_shut (P:=P) (v:=v) hb t a m
  unfold World.viewStore
  cases tight P P.depth t with
  | false=>exact ⟨_,rfl⟩
  | true=>
    rw [he]
    exact ⟨_,rfl⟩
theorem farLoad_none {P:Program} (hn:∀ (b:Nat) (o:Obj),v.heap[b]? = some o→NoView o) (a:Addr) (m:Bool):∃ e,v.farLoad P a m = .error e:=by
  unfold World.farLoad
  split
  · rename_i h
    obtain ⟨e,he⟩:=viewLoad_shut (P:=P) (v:=v) (hn _ _ h) _ a m
    rw [he]
    exact ⟨_,rfl⟩
  · exact ⟨_,rfl⟩
theorem farStore_none {P:Program} (hn:∀ (b:Nat) (o:Obj),v.heap[b]? = some o→NoView o) (a:Addr) (u:Value) (m:Bool):∃ e,v.farStore P a u m = .error e:=by
  unfold World.farStore
  split
  · rename_i h
    obtain ⟨e,he⟩:=viewStore_shut (P:=P) (v:=v) (hn _ _ h) _ a u m
    rw [he]
    exact ⟨_,rfl⟩
  · exact ⟨_,rfl⟩
theorem Sim.modify (h:Sim X Y w v) (b:Nat) (f:Obj→Obj) (hf:∀ o,NoView o→NoView (f o)) (hg:∀ o o',Ghost o o' → f o=o∧f o' = o') (hc:¬ X b) :
    Sim X Y { w with heap:=w.heap.modify b f } { v with heap:=v.heap.modify b f }:=by
  refine ⟨by simp [h.size],fun x hx=>by simpa using h.bound x hx,fun x hx hy => ?_,fun x o hy => ?_,fun x hx => ?_,fun x o hx => ?_,h.os,h.out,h.str,fun x cs t fr hx hb => ?_⟩
  · simp only [Array.getElem?_modify,h.same x hx hy]
  · obtain ⟨o',h1,h2,h3⟩:=h.gho x o hy
    refine ⟨o',?_,?_,h3⟩
    · simp only [Array.getElem?_modify,h1]
      split <;> simp [(hg o o' h3).1]
    · simp only [Array.getElem?_modify,h2]
      split <;> simp [(hg o o' h3).2]
  · obtain ⟨cs,t,fr,h1,h2⟩:=h.doc x hx
    simp only [Array.getElem?_modify,h1,h2]
    by_cases hb:b=x
    · subst hb
      exact absurd hx hc
    · simp only [if_neg hb]
      exact ⟨cs,t,fr,rfl,rfl⟩
  · simp only [Array.getElem?_modify] at hx
    by_cases hb:b=x
    · subst hb
      simp only [if_true,Option.map_eq_some_iff] at hx
      obtain ⟨o',h1,rfl⟩:=hx
      exact hf o' (h.nv _ _ h1)
    · rw [if_neg hb] at hx
      exact h.nv _ _ hx
  · simp only [Array.getElem?_modify] at hb
    by_cases hbx:b=x
    · subst hbx
      exact absurd hx hc
    · rw [if_neg hbx] at hb
      exact h.unf x cs t fr hx hb
theorem Sim.setCell (h:Sim X Y w v) {a:Addr} (hx:¬ X a.block) (u:Value):Sim X Y (w.setCell a u) (v.setCell a u):=
  h.modify a.block _ (fun o ho=>by cases o <;> first | exact ho | trivial) (fun o o' hg=>by rcases hg with ⟨b,t,rfl,rfl⟩ | ⟨c,t,rfl,rfl⟩ <;> exact ⟨rfl,rfl⟩) hx
theorem Sim.push (h:Sim X Y w v) {o:Obj} (ho:NoView o):Sim X Y { w with heap:=w.heap.push o } { v with heap:=v.heap.push o }:=by
  refine ⟨by simp [h.size],fun b hb=>by have:=h.bound b hb;simp;omega,fun b hb hy => ?_,fun b o hy => ?_,fun b hb => ?_,fun b o' hb => ?_,h.os,h.out,h.str,fun b cs t fr hx hb => ?_⟩
  · simp only [Array.getElem?_push,h.size,h.same b hb hy]
  · rename_i oo
    obtain ⟨o2,h1,h2,h3⟩:=h.gho b _ hy
    have hlt:=h.bound b (.inr (by rw [hy];rfl))
    refine ⟨o2,?_,?_,h3⟩
    · rw [Array.getElem?_push,if_neg (by rw [h.size];omega)];exact h1
    · rw [Array.getElem?_push,if_neg (by omega)];exact h2
  · obtain ⟨cs,t,fr,h1,h2⟩:=h.doc b hb
    have hlt:=h.bound b (.inl hb)
    refine ⟨cs,t,fr,?_,?_⟩
    · rw [Array.getElem?_push,if_neg (by rw [h.size];omega)];exact h1
    · rw [Array.getElem?_push,if_neg (by omega)];exact h2
  · simp only [Array.getElem?_push] at hb
    split at hb
    · cases hb;exact ho
    · exact h.nv b o' hb
  · have hlt:=h.bound b (.inl hx)
    simp only [Array.getElem?_push] at hb
    rw [if_neg (by omega)] at hb
    exact h.unf b cs t fr hx hb
theorem Sim.draw (h:Sim X Y w v):Sim X Y { w with drawn:=w.drawn+1 } { v with drawn:=v.drawn+1 }:=
  ⟨h.size,h.bound,h.same,h.gho,h.doc,h.nv,h.os,h.out,fun i q=>by have:=h.str (i+1) q;simpa [Nat.add_assoc,Nat.add_comm 1 i] using this,h.unf⟩
end
theorem sim_run {P:Program} {X:Nat→Prop} {Y:Nat→Option Obj} {α:Type}:∀ (s:Sem α) (w v:World) (es:Array Event) (x:α) (v':World) (es':Array Event),Plain P s→Sim X Y w v→s.runT P v es=(.ok x v',es') →
    ∃ w',s.runT P w es=(.ok x w',es')∧Sim X Y w' v' ∧ v.heap.size≤v'.heap.size∧∀ e∈es',e∈es∨EvP X w' e
  | .pure a,w,v,es,x,v',es',_,h,hr=>by
    simp only [Sem.runT,Prod.mk.injEq,Result.ok.injEq] at hr
    obtain ⟨⟨rfl,rfl⟩,rfl⟩:=hr
    exact ⟨w,rfl,h,Nat.le_refl _,fun e he=>.inl he⟩
  | .load m a k,w,v,es,x,v',es',hp,h,hr=>by
    obtain ⟨rfl,hp⟩:=hp
    cases hc:v.cell? a with
    | none=>
      obtain ⟨e,he⟩:=farLoad_none (P:=P) h.nv a (Mode.plain == Mode.atomic)
      simp only [Sem.runT,hc,he] at hr
      cases hr
    | some u=>
      obtain ⟨hx,hy,hlt⟩:=h.notX hc
      simp only [Sem.runT,hc] at hr
      obtain ⟨w',h1,h2,h3,h4⟩:=sim_run (k u) w v _ x v' es' (hp u) h hr
      refine ⟨w',by simp only [Sem.runT,h.cell hx hy,hc];exact h1,h2,h3,fun e he => ?_⟩
      rcases h4 e he with h5 | h5
      · rcases Array.mem_push.1 h5 with h6 | rfl
        · exact .inl h6
        · exact .inr (.inl ⟨a,false,rfl,by rw [h2.size];omega,hx⟩)
      · exact .inr h5
  | .store m a u k,w,v,es,x,v',es',hp,h,hr=>by
    obtain ⟨rfl,hp⟩:=hp
    have key:(∀ (w:World),(Sem.store Mode.plain a u k).runT P w es=match w.cell? a with
        | some _=>if w.frozen? a then (.halt (.unsupported (.unsafePointer "a write to bytes that a string shares")) w,es) else k.runT P (w.setCell a u) (es.push ⟨.cell a,true,Mode.plain == Mode.atomic⟩)
        | none=>match w.farStore P a u (Mode.plain == Mode.atomic) with
          | .ok (w,touched)=>k.runT P w (es++touched.toArray.map (⟨.cell ·,true,Mode.plain == Mode.atomic⟩))
          | .error h=>(.halt h w,es))∨(∀ (w:World),(Sem.store Mode.plain a u k).runT P w es=(.halt (.stuck "store: not the value of one cell") w,es)):=by
      cases u <;> first | exact .inr fun _=>rfl | exact .inl fun _=>rfl
    rcases key with key | key
    · rw [key] at hr
      cases hc:v.cell? a with
      | none=>
        obtain ⟨e,he⟩:=farStore_none (P:=P) h.nv a u (Mode.plain == Mode.atomic)
        simp only [hc,he] at hr
        cases hr
      | some u'=>
        obtain ⟨hx,hy,hlt⟩:=h.notX hc
        simp only [hc] at hr
        cases hz:v.frozen? a with
        | true=>rw [hz] at hr;simp at hr
        | false=>
          rw [hz] at hr
          simp only [Bool.false_eq_true,if_false] at hr
          obtain ⟨w',h1,h2,h3,h4⟩:=sim_run k (w.setCell a u) (v.setCell a u) _ x v' es' hp (h.setCell hx u) hr
          refine ⟨w',by rw [key];simp only [h.cell hx hy,hc,h.frozen,hz,Bool.false_eq_true,if_false];exact h1,h2,by simpa [World.setCell] using h3,fun e he => ?_⟩
          rcases h4 e he with h5 | h5
          · rcases Array.mem_push.1 h5 with h6 | rfl
            · exact .inl h6
            · refine .inr (.inl ⟨a,true,rfl,?_,hx⟩)
              have:v.heap.size≤v'.heap.size:=by simpa [World.setCell] using h3
              rw [h2.size];omega
          · exact .inr h5
    · rw [key] at hr
      cases hr
  | .new o k,w,v,es,x,v',es',hp,h,hr=>by
    simp only [Sem.runT] at hr
    obtain ⟨w',h1,h2,h3,h4⟩:=sim_run (k v.heap.size) _ _ es x v' es' (hp.2 _) (h.push hp.1) hr
    refine ⟨w',by simp only [Sem.runT,h.size];exact h1,h2,?_,h4⟩
    simp at h3
    omega
  | .shape r k,w,v,es,x,v',es',hp,h,hr=>by
    simp only [Sem.runT] at hr
    by_cases hx:X r
    · obtain ⟨cs,t,fr,e1,e2⟩:=h.doc r hx
      have s2:v.shape? r=some (t,0):=by simp [World.shape?,e2]
      have s1:w.shape? r=some (t,cs.size):=by simp [World.shape?,e1]
      rw [s2] at hr
      rcases hp.1 t cs.size with hd | he
      · obtain ⟨y,w',es'',hh⟩:=doomed_halts (k (some (t,0))) hd v es
        rw [hh] at hr
        cases hr
      · obtain ⟨w',h1,h2,h3,h4⟩:=sim_run (k (some (t,0))) w v es x v' es' (hp.2 _) h hr
        exact ⟨w',by simp only [Sem.runT,s1,he];exact h1,h2,h3,h4⟩
    · have e:w.shape? r=v.shape? r:=by
        cases hy:Y r with
        | some o=>
          obtain ⟨o',h1,h2,hg⟩:=h.gho _ _ hy
          simp only [World.shape?,h1,h2]
          rcases hg with ⟨b,t,rfl,rfl⟩ | ⟨c,t,rfl,rfl⟩ <;> rfl
        | none=>simp only [World.shape?,h.same r hx hy]
      obtain ⟨w',h1,h2,h3,h4⟩:=sim_run (k (v.shape? r)) w v es x v' es' (hp.2 _) h hr
      exact ⟨w',by simp only [Sem.runT,e];exact h1,h2,h3,h4⟩
  | .freeze a n k,_,_,_,_,_,_,hp,_,_=>hp.elim
  | .frozen a k,w,v,es,x,v',es',hp,h,hr=>by
    simp only [Sem.runT] at hr
    obtain ⟨w',h1,h2,h3,h4⟩:=sim_run (k (v.frozen? a)) w v es x v' es' (hp _) h hr
    exact ⟨w',by simp only [Sem.runT,h.frozen];exact h1,h2,h3,h4⟩
  | .getObj r k,w,v,es,x,v',es',hp,h,hr=>by
    by_cases hx:X r
    · obtain ⟨cs,t,fr,_,e2⟩:=h.doc r hx
      simp only [Sem.runT,e2] at hr
      cases hr
    · rcases hy:Y r with _ | o
      case some=>
        obtain ⟨o',h1,h2,hg⟩:=h.gho r o hy
        have hlt:=(Array.getElem?_eq_some_iff.1 h2).1
        have ev:∀ (u:World) (q:Obj),u.heap[r]? = some q→(∀ c t fr,q ≠ .cells c t fr)→(Sem.getObj r k).runT P u es=(k q).runT P u (es.push ⟨.obj r,false,q.isChan⟩):=fun u q hu hq=>by
          cases q <;> first | exact absurd rfl (hq _ _ _) | simp only [Sem.runT,hu]
        have n1:∀ c t fr,o ≠ .cells c t fr:=by rcases hg with ⟨b,t,rfl,rfl⟩ | ⟨c,t,rfl,rfl⟩ <;> (intro _ _ _ hh;cases hh)
        have n2:∀ c t fr,o' ≠ .cells c t fr:=by rcases hg with ⟨b,t,rfl,rfl⟩ | ⟨c,t,rfl,rfl⟩ <;> (intro _ _ _ hh;cases hh)
        rw [ev v o' h2 n2] at hr
        rcases hp.1 o o' hg with he | hd
        · have hi:o.isChan=o'.isChan:=by rcases hg with ⟨b,t,rfl,rfl⟩ | ⟨c,t,rfl,rfl⟩ <;> rfl
          obtain ⟨w',h3,h4,h5,h6⟩:=sim_run (k o') w v _ x v' es' (hp.2 _) h hr
          refine ⟨w',by rw [ev w o h1 n1,he,hi];exact h3,h4,h5,fun e he => ?_⟩
          rcases h6 e he with h7 | h7
          · rcases Array.mem_push.1 h7 with h8 | rfl
            · exact .inl h8
            · exact .inr (.inr (.inl ⟨r,_,_,rfl,by rw [h4.size];omega,hx⟩))
          · exact .inr h7
        · obtain ⟨y,w',es'',hh⟩:=doomed_halts (k o') hd v (es.push ⟨.obj r,false,o'.isChan⟩)
          rw [hh] at hr
          cases hr
      have e:=h.same r hx hy
      cases ho:v.heap[r]? with
      | none=>simp only [Sem.runT,ho] at hr;cases hr
      | some o=>
        have hlt:=(Array.getElem?_eq_some_iff.1 ho).1
        cases o with
        | cells c t fr=>simp only [Sem.runT,ho] at hr;cases hr
        | _=>
          simp only [Sem.runT,ho] at hr
          obtain ⟨w',h1,h2,h3,h4⟩:=sim_run (k _) w v _ x v' es' (hp.2 _) h hr
          refine ⟨w',by simp only [Sem.runT,e,ho];exact h1,h2,h3,fun e he => ?_⟩
          rcases h4 e he with h5 | h5
          · rcases Array.mem_push.1 h5 with h6 | rfl
            · exact .inl h6
            · exact .inr (.inr (.inl ⟨r,_,_,rfl,by rw [h2.size];omega,hx⟩))
          · exact .inr h5
  | .setObj r o k,_,_,_,_,_,_,hp,_,_=>hp.elim
  | .choose q k,w,v,es,x,v',es',hp,h,hr=>by
    have e:w.tape w.drawn q=v.tape v.drawn q:=by simpa using h.str 0 q
    cases hq:q.forced with
    | true=>
      simp only [Sem.runT,hq,if_true] at hr
      obtain ⟨w',h1,h2,h3,h4⟩:=sim_run (k 0) w v es x v' es' (hp _) h hr
      exact ⟨w',by simp only [Sem.runT,hq,if_true];exact h1,h2,h3,h4⟩
    | false=>
      simp only [Sem.runT,hq,Bool.false_eq_true,if_false] at hr
      obtain ⟨w',h1,h2,h3,h4⟩:=sim_run (k _) _ _ es x v' es' (hp _) h.draw hr
      exact ⟨w',by simp only [Sem.runT,hq,Bool.false_eq_true,if_false,e];exact h1,h2,h3,h4⟩
  | .sys c k,_,_,_,_,_,_,hp,_,_=>hp.elim
  | .program k,w,v,es,x,v',es',hp,h,hr=>by
    simp only [Sem.runT] at hr
    obtain ⟨w',h1,h2,h3,h4⟩:=sim_run (k P) w v es x v' es' hp h hr
    exact ⟨w',h1,h2,h3,h4⟩
  | .mark m k,w,v,es,x,v',es',hp,h,hr=>by
    obtain ⟨hm,hp⟩:=hp
    simp only [Sem.runT] at hr
    obtain ⟨w',h1,h2,h3,h4⟩:=sim_run k w v _ x v' es' hp h hr
    refine ⟨w',h1,h2,h3,fun e he => ?_⟩
    rcases h4 e he with h5 | h5
    · rcases Array.mem_push.1 h5 with h6 | rfl
      · exact .inl h6
      · exact .inr (.inr (.inr ⟨m,hm,rfl⟩))
    · exact .inr h5
  | .halt _,_,_,_,_,_,_,_,_,hr=>by simp only [Sem.runT] at hr;cases hr
theorem Sim.self {v:World} (hn:∀ (b:Nat) (o:Obj),v.heap[b]? = some o→NoView o):Sim (fun _=>False) (fun _=>none) v v:=⟨rfl,fun _ h=>h.elim (fun h=>h.elim) (fun h=>by cases h),fun _ _ _=>rfl,fun _ _ h=>(by cases h),fun _ h=>h.elim,hn,rfl,rfl,fun _ _=>rfl,fun _ _ _ _ h=>h.elim⟩
theorem tape_run {P:Program} {α:Type}:∀ (s:Sem α) (v:World) (es:Array Event) (x:α) (v':World) (es':Array Event),Plain P s→(∀ (b:Nat) (o:Obj),v.heap[b]? = some o→NoView o)→s.runT P v es=(.ok x v',es') →
    v'.tape=v.tape∧v.drawn≤v'.drawn∧∀ τ:Nat→Question→Nat,(∀ p,v.drawn≤p→p < v'.drawn→τ p=v.tape p)→s.runT P { v with tape:=τ } es=(.ok x { v' with tape:=τ },es')
  | .pure a,v,es,x,v',es',_,_,hr=>by
    simp only [Sem.runT,Prod.mk.injEq,Result.ok.injEq] at hr
    obtain ⟨⟨rfl,rfl⟩,rfl⟩:=hr
    exact ⟨rfl,Nat.le_refl _,fun _ _=>rfl⟩
  | .load m a k,v,es,x,v',es',hp,hn,hr=>by
    obtain ⟨rfl,hp⟩:=hp
    cases hc:v.cell? a with
    | none=>
      obtain ⟨e,he⟩:=farLoad_none (P:=P) hn a (Mode.plain == Mode.atomic)
      simp only [Sem.runT,hc,he] at hr
      cases hr
    | some u=>
      simp only [Sem.runT,hc] at hr
      obtain ⟨h1,h2,h3⟩:=tape_run (k u) v _ x v' es' (hp u) hn hr
      refine ⟨h1,h2,fun τ hτ => ?_⟩
      have:({ v with tape:=τ }:World).cell? a=some u:=hc
      simp only [Sem.runT,this]
      exact h3 τ hτ
  | .store m a u k,v,es,x,v',es',hp,hn,hr=>by
    obtain ⟨rfl,hp⟩:=hp
    have key:(∀ (w:World),(Sem.store Mode.plain a u k).runT P w es=match w.cell? a with
        | some _=>if w.frozen? a then (.halt (.unsupported (.unsafePointer "a write to bytes that a string shares")) w,es) else k.runT P (w.setCell a u) (es.push ⟨.cell a,true,Mode.plain == Mode.atomic⟩)
        | none=>match w.farStore P a u (Mode.plain == Mode.atomic) with
          | .ok (w,touched)=>k.runT P w (es++touched.toArray.map (⟨.cell ·,true,Mode.plain == Mode.atomic⟩))
          | .error h=>(.halt h w,es))∨(∀ (w:World),(Sem.store Mode.plain a u k).runT P w es=(.halt (.stuck "store: not the value of one cell") w,es)):=by
      cases u <;> first | exact .inr fun _=>rfl | exact .inl fun _=>rfl
    rcases key with key | key
    · rw [key] at hr
      cases hc:v.cell? a with
      | none=>
        obtain ⟨e,he⟩:=farStore_none (P:=P) hn a u (Mode.plain == Mode.atomic)
        simp only [hc,he] at hr
        cases hr
      | some u'=>
        simp only [hc] at hr
        cases hz:v.frozen? a with
        | true=>rw [hz] at hr;simp at hr
        | false=>
          rw [hz] at hr
          simp only [Bool.false_eq_true,if_false] at hr
          obtain ⟨h1,h2,h3⟩:=tape_run k (v.setCell a u) _ x v' es' hp ((Sim.self hn).setCell (fun h=>h) u).nv hr
          refine ⟨h1,h2,fun τ hτ => ?_⟩
          have e1:({ v with tape:=τ }:World).cell? a=some u':=hc
          have e2:({ v with tape:=τ }:World).frozen? a=false:=hz
          rw [key]
          simp only [e1,e2,Bool.false_eq_true,if_false]
          exact h3 τ hτ
    · rw [key] at hr
      cases hr
  | .new o k,v,es,x,v',es',hp,hn,hr=>by
    simp only [Sem.runT] at hr
    obtain ⟨h1,h2,h3⟩:=tape_run (k v.heap.size) _ es x v' es' (hp.2 _) ((Sim.self hn).push hp.1).nv hr
    exact ⟨h1,h2,fun τ hτ=>h3 τ hτ⟩
  | .shape r k,v,es,x,v',es',hp,hn,hr=>by
    simp only [Sem.runT] at hr
    exact tape_run (k (v.shape? r)) v es x v' es' (hp.2 _) hn hr
  | .freeze a n k,_,_,_,_,_,hp,_,_=>hp.elim
  | .frozen a k,v,es,x,v',es',hp,hn,hr=>by
    simp only [Sem.runT] at hr
    exact tape_run (k (v.frozen? a)) v es x v' es' (hp _) hn hr
  | .getObj r k,v,es,x,v',es',hp,hn,hr=>by
    cases ho:v.heap[r]? with
    | none=>simp only [Sem.runT,ho] at hr;cases hr
    | some o=>
      cases o with
      | cells c t fr=>simp only [Sem.runT,ho] at hr;cases hr
      | _=>
        simp only [Sem.runT,ho] at hr
        obtain ⟨h1,h2,h3⟩:=tape_run (k _) v _ x v' es' (hp.2 _) hn hr
        refine ⟨h1,h2,fun τ hτ => ?_⟩
        simp only [Sem.runT,ho]
        exact h3 τ hτ
  | .setObj r o k,_,_,_,_,_,hp,_,_=>hp.elim
  | .choose q k,v,es,x,v',es',hp,hn,hr=>by
    cases hq:q.forced with
    | true=>
      simp only [Sem.runT,hq,if_true] at hr
      obtain ⟨h1,h2,h3⟩:=tape_run (k 0) v es x v' es' (hp _) hn hr
      refine ⟨h1,h2,fun τ hτ => ?_⟩
      simp only [Sem.runT,hq,if_true]
      exact h3 τ hτ
    | false=>
      simp only [Sem.runT,hq,Bool.false_eq_true,if_false] at hr
      obtain ⟨h1,h2,h3⟩:=tape_run (k _) { v with drawn:=v.drawn+1 } es x v' es' (hp _) hn hr
      dsimp only at h1 h2 h3
      refine ⟨h1,by omega,fun τ hτ => ?_⟩
      simp only [Sem.runT,hq,Bool.false_eq_true,if_false]
      rw [hτ v.drawn (Nat.le_refl _) (by omega)]
      exact h3 τ fun p hp1 hp2=>hτ p (by omega) hp2
  | .sys c k,_,_,_,_,_,hp,_,_=>hp.elim
  | .program k,v,es,x,v',es',hp,hn,hr=>by
    simp only [Sem.runT] at hr
    exact tape_run (k P) v es x v' es' hp hn hr
  | .mark m k,v,es,x,v',es',hp,hn,hr=>by
    simp only [Sem.runT] at hr
    exact tape_run k v _ x v' es' hp.2 hn hr
  | .halt _,_,_,_,_,_,_,_,hr=>by simp only [Sem.runT] at hr;cases hr
theorem noCell_ok {v:World} (hn:∀ (b:Nat) (o:Obj),v.heap[b]? = some o→NoView o) (a:Addr) (s:String):HaltOk (v.noCell a s):=by
  unfold World.noCell
  split
  · rename_i h;exact (hn _ _ h).elim
  · trivial
  · trivial
theorem farLoad_err {P:Program} {v:World} (hn:∀ (b:Nat) (o:Obj),v.heap[b]? = some o→NoView o) (a:Addr) (m:Bool):∃ e,v.farLoad P a m = .error e∧HaltOk e:=by
  unfold World.farLoad
  split
  · rename_i h
    obtain ⟨e,he⟩:=viewLoad_shut (P:=P) (v:=v) (hn _ _ h) _ a m
    rw [he]
    exact ⟨_,rfl,trivial⟩
  · exact ⟨_,rfl,noCell_ok hn _ _⟩
theorem farStore_err {P:Program} {v:World} (hn:∀ (b:Nat) (o:Obj),v.heap[b]? = some o→NoView o) (a:Addr) (u:Value) (m:Bool):∃ e,v.farStore P a u m = .error e∧HaltOk e:=by
  unfold World.farStore
  split
  · rename_i h
    obtain ⟨e,he⟩:=viewStore_shut (P:=P) (v:=v) (hn _ _ h) _ a u m
    rw [he]
    exact ⟨_,rfl,trivial⟩
  · exact ⟨_,rfl,noCell_ok hn _ _⟩
theorem plain_halts {P:Program} {X:Nat→Prop} {Y:Nat→Option Obj} {α:Type}:∀ (s:Sem α) (w v:World) (es:Array Event) (x:Halt) (v':World) (es':Array Event),Plain P s→Sim X Y w v→s.runT P v es=(.halt x v',es')→HaltOk x
  | .pure a,w,v,es,x,v',es',_,h,hr=>by simp only [Sem.runT] at hr;cases hr
  | .load m a k,w,v,es,x,v',es',hp,h,hr=>by
    obtain ⟨rfl,hp⟩:=hp
    cases hc:v.cell? a with
    | none=>
      obtain ⟨e,he,hok⟩:=farLoad_err (P:=P) h.nv a (Mode.plain == Mode.atomic)
      simp only [Sem.runT,hc,he] at hr
      cases hr
      exact hok
    | some u=>
      simp only [Sem.runT,hc] at hr
      exact plain_halts (k u) w v _ x v' es' (hp u) h hr
  | .store m a u k,w,v,es,x,v',es',hp,h,hr=>by
    obtain ⟨rfl,hp⟩:=hp
    have key:(∀ (w:World),(Sem.store Mode.plain a u k).runT P w es=match w.cell? a with
        | some _=>if w.frozen? a then (.halt (.unsupported (.unsafePointer "a write to bytes that a string shares")) w,es) else k.runT P (w.setCell a u) (es.push ⟨.cell a,true,Mode.plain == Mode.atomic⟩)
        | none=>match w.farStore P a u (Mode.plain == Mode.atomic) with
          | .ok (w,touched)=>k.runT P w (es++touched.toArray.map (⟨.cell ·,true,Mode.plain == Mode.atomic⟩))
          | .error h=>(.halt h w,es))∨(∀ (w:World),(Sem.store Mode.plain a u k).runT P w es=(.halt (.stuck "store: not the value of one cell") w,es)):=by
      cases u <;> first | exact .inr fun _=>rfl | exact .inl fun _=>rfl
    rcases key with key | key
    · rw [key] at hr
      cases hc:v.cell? a with
      | none=>
        obtain ⟨e,he,hok⟩:=farStore_err (P:=P) h.nv a u (Mode.plain == Mode.atomic)
        simp only [hc,he] at hr
        cases hr
        exact hok
      | some u'=>
        simp only [hc] at hr
        cases hz:v.frozen? a with
        | true=>
          rw [hz] at hr
          simp only [if_true] at hr
          cases hr
          trivial
        | false=>
          rw [hz] at hr
          simp only [Bool.false_eq_true,if_false] at hr
          exact plain_halts k _ _ _ x v' es' hp (h.setCell (h.notX hc).1 u) hr
    · rw [key] at hr
      cases hr
      trivial
  | .new o k,w,v,es,x,v',es',hp,h,hr=>plain_halts (k v.heap.size) _ _ es x v' es' (hp.2 _) (h.push hp.1) hr
  | .shape r k,w,v,es,x,v',es',hp,h,hr=>plain_halts (k (v.shape? r)) w v es x v' es' (hp.2 _) h hr
  | .freeze a n k,_,_,_,_,_,_,hp,_,_=>hp.elim
  | .frozen a k,w,v,es,x,v',es',hp,h,hr=>plain_halts (k (v.frozen? a)) w v es x v' es' (hp _) h hr
  | .getObj r k,w,v,es,x,v',es',hp,h,hr=>by
    cases ho:v.heap[r]? with
    | none=>simp only [Sem.runT,ho] at hr;cases hr;trivial
    | some o=>
      cases o with
      | cells c t fr=>simp only [Sem.runT,ho] at hr;cases hr;trivial
      | _=>
        simp only [Sem.runT,ho] at hr
        exact plain_halts (k _) w v _ x v' es' (hp.2 _) h hr
  | .setObj r o k,_,_,_,_,_,_,hp,_,_=>hp.elim
  | .choose q k,w,v,es,x,v',es',hp,h,hr=>by
    cases hq:q.forced with
    | true=>
      simp only [Sem.runT,hq,if_true] at hr
      exact plain_halts (k 0) w v es x v' es' (hp _) h hr
    | false=>
      simp only [Sem.runT,hq,Bool.false_eq_true,if_false] at hr
      exact plain_halts (k _) _ _ es x v' es' (hp _) h.draw hr
  | .sys c k,_,_,_,_,_,_,hp,_,_=>hp.elim
  | .program k,w,v,es,x,v',es',hp,h,hr=>plain_halts (k P) w v es x v' es' hp h hr
  | .mark m k,w,v,es,x,v',es',hp,h,hr=>plain_halts k w v _ x v' es' hp.2 h hr
  | .halt y,w,v,es,x,v',es',hp,_,hr=>by
    simp only [Sem.runT] at hr
    cases hr
    exact hp
end Go.Lf

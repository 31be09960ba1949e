/-
  The statement Canon up to its Encode, and into it.
-/
import Derived.Test.YtkpcmfgeanlcnabGreatDoorEpB
import Derived.Test.YtkpcmfgeanlcnabGreatDoorEpC
import Derived.Test.YtkpcmfgeanlcnabGreatDoorPwC
import Derived.Test.YtkpcmfgeanlcnabGreatDoorPaA
namespace Go.Proofs.YtkpcmfgeanlcnabGreatDoor
open Go.RowKit Go.Deep Go.Lf Go.Conc Go.Hp
noncomputable def cnBody:Code:=Tryz.f3.body.getD .skip
noncomputable def cn3:Code:=gSnd (gSnd (gSnd cnBody))
noncomputable def qn3:{y:Array Oper // y=gOps (gFst cn3)}:=⟨_,by (simp only [cn3,cnBody,gFst,gSnd,gOps,Tryz.f3,Option.getD_some];rfl)⟩
noncomputable def nO3:Array Oper:=qn3.1
noncomputable def cn4:Code:=gSnd cn3
theorem cn3_eq:cn3 = .seq (.region 3 nO3 false) cn4:=by kernel_rfl
theorem nO3_size:nO3.size=8:=by kernel_rfl
theorem sfcn:∃ fn,Tryz.prog.funcs[3]? = some fn:=⟨_,Tryz.func3⟩
theorem cnBody_eq:cnBody = .seq (gFst cnBody) (.seq (gFst (gSnd cnBody)) (.seq (gFst (gSnd (gSnd cnBody))) cn3)):=by kernel_rfl
def Tc (f:Nat→Value) (a4 a5 a6 a15 a16 a17 a18 a19 a20 a21 a22 a23 a24 a25 a34 a35 a37 a38:Value):Array Value:=#[f 0,f 1,f 2,f 3,a4,a5,a6,f 7,f 8,f 9,f 10,f 11,f 12,f 13,f 14,a15,a16,a17,a18,a19,a20,a21,a22,a23,a24,a25,f 26,f 27,f 28,f 29,f 30,f 31,f 32,f 33,a34,a35,f 36,a37,a38,f 39,f 40,f 41,f 42,f 43,f 44,f 45,f 46,f 47,f 48,f 49,f 50,f 51,f 52,f 53,f 54,f 55,f 56,f 57,f 58,f 59,f 60,f 61,f 62,f 63,f 64,f 65,f 66,f 67,f 68,f 69,f 70,f 71,f 72,f 73,f 74,f 75,f 76,f 77,f 78,f 79,f 80,f 81,f 82,f 83,f 84,f 85,f 86,f 87,f 88,f 89,f 90,f 91,f 92,f 93,f 94,f 95,f 96,f 97,f 98,f 99,f 100,f 101,f 102,f 103,f 104,f 105,f 106,f 107,f 108,f 109,f 110,f 111,f 112,f 113,f 114,f 115,f 116,f 117,f 118,f 119,f 120,f 121,f 122,f 123,f 124,f 125,f 126,f 127,f 128,f 129,f 130,f 131,f 132,f 133,f 134,f 135,f 136,f 137,f 138,f 139,f 140,f 141,f 142,f 143,f 144,f 145,f 146,f 147,f 148,f 149,f 150,f 151,f 152,f 153,f 154,f 155,f 156,f 157,f 158,f 159,f 160,f 161,f 162,f 163,f 164,f 165,f 166,f 167,f 168,f 169,f 170,f 171,f 172,f 173,f 174,f 175,f 176,f 177,f 178,f 179,f 180,f 181,f 182,f 183,f 184,f 185,f 186,f 187,f 188,f 189,f 190,f 191,f 192,f 193,f 194,f 195,f 196,f 197,f 198,f 199,f 200,f 201,f 202,f 203,f 204,f 205,f 206,f 207,f 208,f 209,f 210,f 211,f 212,f 213,f 214,f 215,f 216,f 217,f 218,f 219,f 220,f 221,f 222,f 223,f 224,f 225,f 226,f 227,f 228,f 229,f 230,f 231,f 232]
theorem tcn_mk {T:Array Value} (h:T = #[T.getD 0 undef,T.getD 1 undef,T.getD 2 undef,T.getD 3 undef,T.getD 4 undef,T.getD 5 undef,T.getD 6 undef,T.getD 7 undef,T.getD 8 undef,T.getD 9 undef,T.getD 10 undef,T.getD 11 undef,T.getD 12 undef,T.getD 13 undef,T.getD 14 undef,T.getD 15 undef,T.getD 16 undef,T.getD 17 undef,T.getD 18 undef,T.getD 19 undef,T.getD 20 undef,T.getD 21 undef,T.getD 22 undef,T.getD 23 undef,T.getD 24 undef,T.getD 25 undef,T.getD 26 undef,T.getD 27 undef,T.getD 28 undef,T.getD 29 undef,T.getD 30 undef,T.getD 31 undef,T.getD 32 undef,T.getD 33 undef,T.getD 34 undef,T.getD 35 undef,T.getD 36 undef,T.getD 37 undef,T.getD 38 undef,T.getD 39 undef,T.getD 40 undef,T.getD 41 undef,T.getD 42 undef,T.getD 43 undef,T.getD 44 undef,T.getD 45 undef,T.getD 46 undef,T.getD 47 undef,T.getD 48 undef,T.getD 49 undef,T.getD 50 undef,T.getD 51 undef,T.getD 52 undef,T.getD 53 undef,T.getD 54 undef,T.getD 55 undef,T.getD 56 undef,T.getD 57 undef,T.getD 58 undef,T.getD 59 undef,T.getD 60 undef,T.getD 61 undef,T.getD 62 undef,T.getD 63 undef,T.getD 64 undef,T.getD 65 undef,T.getD 66 undef,T.getD 67 undef,T.getD 68 undef,T.getD 69 undef,T.getD 70 undef,T.getD 71 undef,T.getD 72 undef,T.getD 73 undef,T.getD 74 undef,T.getD 75 undef,T.getD 76 undef,T.getD 77 undef,T.getD 78 undef,T.getD 79 undef,T.getD 80 undef,T.getD 81 undef,T.getD 82 undef,T.getD 83 undef,T.getD 84 undef,T.getD 85 undef,T.getD 86 undef,T.getD 87 undef,T.getD 88 undef,T.getD 89 undef,T.getD 90 undef,T.getD 91 undef,T.getD 92 undef,T.getD 93 undef,T.getD 94 undef,T.getD 95 undef,T.getD 96 undef,T.getD 97 undef,T.getD 98 undef,T.getD 99 undef,T.getD 100 undef,T.getD 101 undef,T.getD 102 undef,T.getD 103 undef,T.getD 104 undef,T.getD 105 undef,T.getD 106 undef,T.getD 107 undef,T.getD 108 undef,T.getD 109 undef,T.getD 110 undef,T.getD 111 undef,T.getD 112 undef,T.getD 113 undef,T.getD 114 undef,T.getD 115 undef,T.getD 116 undef,T.getD 117 undef,T.getD 118 undef,T.getD 119 undef,T.getD 120 undef,T.getD 121 undef,T.getD 122 undef,T.getD 123 undef,T.getD 124 undef,T.getD 125 undef,T.getD 126 undef,T.getD 127 undef,T.getD 128 undef,T.getD 129 undef,T.getD 130 undef,T.getD 131 undef,T.getD 132 undef,T.getD 133 undef,T.getD 134 undef,T.getD 135 undef,T.getD 136 undef,T.getD 137 undef,T.getD 138 undef,T.getD 139 undef,T.getD 140 undef,T.getD 141 undef,T.getD 142 undef,T.getD 143 undef,T.getD 144 undef,T.getD 145 undef,T.getD 146 undef,T.getD 147 undef,T.getD 148 undef,T.getD 149 undef,T.getD 150 undef,T.getD 151 undef,T.getD 152 undef,T.getD 153 undef,T.getD 154 undef,T.getD 155 undef,T.getD 156 undef,T.getD 157 undef,T.getD 158 undef,T.getD 159 undef,T.getD 160 undef,T.getD 161 undef,T.getD 162 undef,T.getD 163 undef,T.getD 164 undef,T.getD 165 undef,T.getD 166 undef,T.getD 167 undef,T.getD 168 undef,T.getD 169 undef,T.getD 170 undef,T.getD 171 undef,T.getD 172 undef,T.getD 173 undef,T.getD 174 undef,T.getD 175 undef,T.getD 176 undef,T.getD 177 undef,T.getD 178 undef,T.getD 179 undef,T.getD 180 undef,T.getD 181 undef,T.getD 182 undef,T.getD 183 undef,T.getD 184 undef,T.getD 185 undef,T.getD 186 undef,T.getD 187 undef,T.getD 188 undef,T.getD 189 undef,T.getD 190 undef,T.getD 191 undef,T.getD 192 undef,T.getD 193 undef,T.getD 194 undef,T.getD 195 undef,T.getD 196 undef,T.getD 197 undef,T.getD 198 undef,T.getD 199 undef,T.getD 200 undef,T.getD 201 undef,T.getD 202 undef,T.getD 203 undef,T.getD 204 undef,T.getD 205 undef,T.getD 206 undef,T.getD 207 undef,T.getD 208 undef,T.getD 209 undef,T.getD 210 undef,T.getD 211 undef,T.getD 212 undef,T.getD 213 undef,T.getD 214 undef,T.getD 215 undef,T.getD 216 undef,T.getD 217 undef,T.getD 218 undef,T.getD 219 undef,T.getD 220 undef,T.getD 221 undef,T.getD 222 undef,T.getD 223 undef,T.getD 224 undef,T.getD 225 undef,T.getD 226 undef,T.getD 227 undef,T.getD 228 undef,T.getD 229 undef,T.getD 230 undef,T.getD 231 undef,T.getD 232 undef]):T=Tc (fun i=>T.getD i undef) (T.getD 4 undef) (T.getD 5 undef) (T.getD 6 undef) (T.getD 15 undef) (T.getD 16 undef) (T.getD 17 undef) (T.getD 18 undef) (T.getD 19 undef) (T.getD 20 undef) (T.getD 21 undef) (T.getD 22 undef) (T.getD 23 undef) (T.getD 24 undef) (T.getD 25 undef) (T.getD 34 undef) (T.getD 35 undef) (T.getD 37 undef) (T.getD 38 undef):=h
def TC1 (x4 x5 x6:Value) (pb:Nat) (vb:Value) (T:Array Value):Prop:=∃ f:Nat→Value,T=Tc f (x4) (x5) (x6) (.pointer (some ⟨pb,0,none⟩)) (vb) (f 17) (f 18) (f 19) (f 20) (f 21) (f 22) (f 23) (f 24) (f 25) (f 34) (f 35) (f 37) (f 38)
def TC2 (x4 x5 x6:Value) (pb:Nat) (vb va:Value) (T:Array Value):Prop:=∃ f:Nat→Value,T=Tc f (x4) (x5) (x6) (.pointer (some ⟨pb,0,none⟩)) (vb) (va) (.int .i64 0) (f 19) (f 20) (f 21) (f 22) (f 23) (f 24) (f 25) (f 34) (f 35) (f 37) (f 38)
noncomputable def frC (T:Array Value):Frame:=(base 3).at ⟨T,[]⟩ (.inRegion nO3 [2,3,4,5,6,7] :: [.code cn4])
section
variable {X:Nat→Prop} {Y:Nat→Option Obj} {D:Nat→World→Array Event→Prop} {Stop:Goroutine→World→Prop} {w:World}
set_option maxHeartbeats 8000000 in
set_option maxRecDepth 100000 in
theorem cn_first (hDk:Dok X D) {vr x4 x5 x6:Value} {k n c:Int} {zr:List Int} (hr:Ints w vr zr) (hlr:zr.length < 9223372036854775807) (hk:In64 k) (hn:In64 n) (hc:In64 c)
    (hnext:∀ (T:Array Value) (m:Nat) (f:Nat→Ent) (Dt:Nat→List UInt8) (pb:Nat) (vb:Value) (w':World),TC1 x4 x5 x6 pb vb T→SmP (kOf k n) (nOf n) (cOf c) m f Dt pb vb w' → Bel w.heap.size w w' →
      ReaI Tryz.prog X Y D Stop 3 [] [.code cn3] ⟨T,[]⟩ w') :
    ReaI Tryz.prog X Y D Stop 3 [] [.code cnBody] ⟨#[vr,.int .i64 k,.int .i64 n,.int .i64 c,x4,x5,x6]++Array.replicate 226 undef,[]⟩ w:=by
  rw [cnBody_eq]
  simp only [Array.replicate_succ,Array.replicate_zero,List.push_toArray,List.append_toArray,List.nil_append,List.cons_append]
  refine reachI_go goodF hDk (by kernel_rfl) rfl sfcn fun R hR τ d' => ?_
  have bl:Bel w.heap.size w { w with tape:=τ,drawn:=d' }:=(Bel.refl _ w).tp τ d'
  generalize ({ w with tape:=τ,drawn:=d' }:World)=wA at bl ⊢
  simp only [gFst,cnBody,Tryz.f3,Option.getD_some]
  go_wp2
  refine reachI_go goodF hDk (by kernel_rfl) rfl sfcn fun R hR τ d' => ?_
  replace bl:=bl.tp τ d'
  generalize ({ wA with tape:=τ,drawn:=d' }:World)=wB at bl ⊢
  have kp:=params3_any k n c hk hn hc
  simp only [prm] at kp
  simp only [gFst,gSnd,cnBody,Tryz.f3,Option.getD_some]
  generalize hkk:kOf k n=kk at *
  generalize hnn:nOf n=nn at *
  generalize hcc:cOf c=cc at *
  go_wp2_with (first | (go_at_call 7;(with_reducible refine (kp _).mono ?_);rintro r w1 ⟨rfl,hb1⟩))
  clear kp
  have hp1:=RowAt.made w1 [.int .i64 ((kk:Nat):Int),.int .i64 ((nn:Nat):Int),.int .i64 ((cc:Nat):Int)] 24
  have bl1:=(bl.trans (Bel.of hb1) bl.size').trans (Bel.of ((Below.refl w1.heap.size w1).alloc (Nat.le_refl _) (.cells #[.int .i64 ((kk:Nat):Int),.int .i64 ((nn:Nat):Int),.int .i64 ((cc:Nat):Int)] 24))) (Nat.le_trans bl.size' hb1.size)
  clear hb1 bl
  change RowAt (w1.alloc (.cells #[.int .i64 ((kk:Nat):Int),.int .i64 ((nn:Nat):Int),.int .i64 ((cc:Nat):Int)] 24)) _ _ _ at hp1
  generalize w1.alloc (.cells #[.int .i64 ((kk:Nat):Int),.int .i64 ((nn:Nat):Int),.int .i64 ((cc:Nat):Int)] 24)=w2 at hp1 bl1 ⊢
  generalize w1.heap.size=pb at hp1 bl1 ⊢
  refine reachI_go goodF hDk (by kernel_rfl) rfl sfcn fun R hR τ d' => ?_
  replace bl1:=bl1.tp τ d'
  replace hp1:RowAt ({ w2 with tape:=τ,drawn:=d' }:World) pb [.int .i64 ((kk:Nat):Int),.int .i64 ((nn:Nat):Int),.int .i64 ((cc:Nat):Int)] 24:=hp1
  generalize ({ w2 with tape:=τ,drawn:=d' }:World)=w2 at bl1 hp1 ⊢
  have ka:=archive_any vr zr w2 (hr.bel bl1 (Nat.le_refl _)) hlr
  simp only [gFst,gSnd,cnBody,Tryz.f3,Option.getD_some]
  go_wp2_with (first | (go_at_call 8;(with_reducible refine ka.mono ?_);rintro r w3 ⟨vb,m,f,Dt,rfl,hm,hA⟩))
  clear ka
  exact hnext _ m f Dt pb vb w3 ⟨_,tcn_mk rfl⟩ ⟨hp1.later (S:=fun _=>False) (.of_below hA.bel) hp1.lt id,⟨_,hA.own⟩,hA.nm,hA.len,hA.dat,hm⟩ (bl1.trans (Bel.of hA.bel) bl1.size')
variable {K N C m:Nat} {f:Nat→Ent} {Dt:Nat→List UInt8} {pb:Nat} {vb va x4 x5 x6:Value}
set_option maxHeartbeats 8000000 in
set_option maxRecDepth 100000 in
theorem cn_into (hDk:Dok X D) {T:Array Value} (hT:TC1 x4 x5 x6 pb vb T) (hS:SmP K N C m f Dt pb vb w)
    (hnext:∀ T',TC1 x4 x5 x6 pb vb T' → ReaI Tryz.prog X Y D Stop 9 [frC T'] [.code enBody] ⟨#[vb,.agg #[.int .i64 ((K:Nat):Int),.int .i64 ((N:Nat):Int),.int .i64 ((C:Nat):Int)]]++Array.replicate 26 undef,[]⟩ w) :
    ReaI Tryz.prog X Y D Stop 3 [] [.code cn3] ⟨T,[]⟩ w:=by
  obtain ⟨g,rfl⟩:=hT
  unfold Tc
  have c0:=hS.par.cell (i:=0) rfl
  have c1:=hS.par.cell (i:=1) rfl
  have c2:=hS.par.cell (i:=2) rfl
  rw [cn3_eq]
  refine reachI_split hDk rfl (reaI_region hDk ?_)
  rw [nO3_size]
  simp only [List.range,List.range.loop]
  refine reaR_op goodF hDk vb (by simp only [nO3,qn3];rfl) rfl (by kernel_rfl) (fun z _=>by go_simp) ?_
  walk_nrm
  refine reaR_op goodF hDk (.agg #[.int .i64 ((K:Nat):Int),.int .i64 ((N:Nat):Int),.int .i64 ((C:Nat):Int)]) (by simp only [nO3,qn3];rfl) rfl (by kernel_rfl) (fun z hz=>by
    have e:∀ a,z.cell? a=w.cell? a:=fun a=>by simp only [World.cell?,hz]
    rw [← e] at c0 c1 c2
    go_simp) ?_
  walk_nrm
  refine reaR_call hDk (by simp only [nO3,qn3];rfl) rfl (by rfl) Tryz.func9 (by kernel_rfl) (c:=enBody) (by kernel_rfl) (vs:=#[vb,.agg #[.int .i64 ((K:Nat):Int),.int .i64 ((N:Nat):Int),.int .i64 ((C:Nat):Int)]]) (n:=26) (by simp [Act.eval]) (by kernel_rfl) ?_
  unfold frC at hnext
  exact hnext _ ⟨_,tcn_mk rfl⟩
set_option maxHeartbeats 8000000 in
set_option maxRecDepth 100000 in
theorem cn_out (hDk:Dok X D) {T:Array Value} (hT:TC1 x4 x5 x6 pb vb T)
    (hnext:∀ T',TC2 x4 x5 x6 pb vb va T' → ReaR Tryz.prog X Y D Stop none [] 3 [] [.code cn4] T' w) :
    ∀ z,SimT X Y z w→GoesI Tryz.prog D Stop (G ((frC T).finish (.tuple #[va,.int .i64 0])) []) z:=by
  rw [show frC T=Dn none [] 3 T (.inRegion nO3 [2,3,4,5,6,7] :: [.code cn4]) from rfl]
  rw [Dn_finish (by simp only [nO3,qn3];rfl)]
  show ReaR _ _ _ _ _ _ _ _ _ _ _ _
  obtain ⟨g,rfl⟩:=hT
  unfold Tc
  walk_nrm
  refine reaR_op goodF hDk (.tuple #[va,.int .i64 0]) (by simp only [nO3,qn3];rfl) rfl (by kernel_rfl) (fun z _=>by go_simp) ?_
  walk_nrm
  refine reaR_op goodF hDk va (by simp only [nO3,qn3];rfl) rfl (by kernel_rfl) (fun z _=>by go_simp) ?_
  walk_nrm
  refine reaR_op goodF hDk (.int .i64 0) (by simp only [nO3,qn3];rfl) rfl (by kernel_rfl) (fun z _=>by go_simp) ?_
  walk_nrm
  refine reaR_op goodF hDk va (by simp only [nO3,qn3];rfl) rfl (by kernel_rfl) (fun z _=>by go_simp) ?_
  walk_nrm
  refine reaR_op goodF hDk (.int .i64 0) (by simp only [nO3,qn3];rfl) rfl (by kernel_rfl) (fun z _=>by go_simp) ?_
  walk_nrm
  refine reaR_endReg hDk ?_
  exact hnext _ ⟨_,tcn_mk rfl⟩
end
theorem bel_sub {w w':World} (h:Bel w.heap.size w w'):Sub w w':=⟨h.size',fun _ _ _ _ hb=>(h.blk (Array.getElem?_eq_some_iff.1 hb).1).trans hb⟩
theorem kept_sub {w w':World} (h:Kept w w'):Sub w w':=⟨h.size,fun b _ _ _ hb=>(h.block b (Array.getElem?_eq_some_iff.1 hb).1).trans hb⟩
theorem Sub.trans {a b c:World} (h:Sub a b) (h':Sub b c):Sub a c:=⟨Nat.le_trans h.1 h'.1,fun x y t fr hx=>h'.2 x y t fr (h.2 x y t fr hx)⟩
structure Gl (a:Addr) (w:World):Prop where
  tab:Tab w
  pow:Pow w
  big:5≤w.heap.size
  early:Early w a
  errT:ErrT w
theorem Gl.sub {a:Addr} {w w':World} (h:Gl a w) (hs:Sub w w'):Gl a w':=by
  refine ⟨hs.tab h.tab,?_,Nat.le_trans h.big hs.1,hs.cell h.early,hs.cell h.errT⟩
  have hp:=h.pow
  unfold Pow Lib.TabIs World.var? at hp ⊢
  cases hg:Tryz.prog.globalNamed "internal/strconv.uint64pow10" with
  | none=>rw [hg] at hp;cases hp
  | some g=>
    rw [hg] at hp
    simp only [Option.bind_some] at hp ⊢
    split at hp
    · rename_i cs t fr hc
      rw [hs.2 _ _ _ _ hc]
      exact hp
    · cases hp
noncomputable def cn9:Code:=gSnd (gSnd (gSnd (gSnd cn4)))
theorem cn4_eq:cn4 = .seq (gFst cn4) (.seq (gFst (gSnd cn4)) (.seq (gFst (gSnd (gSnd cn4))) (.seq (gFst (gSnd (gSnd (gSnd cn4)))) cn9))):=by kernel_rfl
def TC3 (x5 x6:Value) (pb:Nat) (vb:Value) (i:Nat) (vi:Value) (sb:Nat) (T:Array Value):Prop:=∃ f:Nat→Value,T=Tc f (f 4) (x5) (x6) (.pointer (some ⟨pb,0,none⟩)) (vb) (f 17) (f 18) (.int .i64 (i:Int)) (vi) (.pointer (some ⟨sb,0,none⟩)) (.int .i64 0) (.int .i64 0) (f 24) (f 25) (f 34) (f 35) (f 37) (f 38)
section
variable {X:Nat→Prop} {Y:Nat→Option Obj} {D:Nat→World→Array Event→Prop} {Stop:Goroutine→World→Prop} {w:World}
variable {K N C m:Nat} {f:Nat→Ent} {Dt:Nat→List UInt8} {pb:Nat} {vb x5 x6:Value}
theorem parse_good {a:Addr} {g cap:Nat} {l:List UInt8} {s:Shd} (hG:Gl a w) (hb:Byt w g 0 l) (hcap:l.length≤cap) (hl:l.length≤4611686018427387904) (hp:parseE l = .ok s) :
    Calls Tryz.prog 11 #[.slice (some ⟨g,0,none⟩) l.length cap] w fun q w'=>Below w.heap.size w w' ∧ ∃ vN vS vC,q = .returned (.tuple #[.agg #[.int .i64 (s.k:Int),.int .i64 (s.n:Int),.int .i64 (s.i:Int),.int .i64 (s.c:Int),vN,vS,vC],.int .i64 0,.int .i64 0]) ∧
      w'.ownsRow w.heap.size 9 1 vN s.names.length (strsV s.names)∧w'.ownsRow w.heap.size 3 1 vS s.sizes.length (natV s.sizes)∧w'.ownsRow w.heap.size 5 1 vC s.col.length (u8V s.col):=by
  refine (parseP_any l _ w (.inr ⟨⟨g,0,none⟩,cap,rfl,hcap,fun _=>id,fun j hj=>by rw [add_off];exact hb j hj⟩) hl hG.tab hG.pow hG.big a hG.early hG.errT).mono ?_
  rintro q w' ⟨h1,h2⟩
  rw [hp] at h2
  exact ⟨h1,h2⟩
theorem parse_bad {a:Addr} {ad:Addr} {cap:Nat} {l:List UInt8} {e:Nat×Nat} (hG:Gl a w) (hb:∀ j,j < l.length→w.cell? (ad.add j)=some (.int .u8 (bAt l j:Int))) (hcap:l.length≤cap) (hl:l.length≤4611686018427387904) (hp:parseE l = .error e) :
    Calls Tryz.prog 11 #[.slice (some ad) l.length cap] w fun q w'=>Below w.heap.size w w' ∧ q = .returned (.tuple #[zeroShard,.int .i64 (e.1:Int),.int .i64 (e.2:Int)]):=by
  refine (parseP_any l _ w (.inr ⟨ad,cap,rfl,hcap,fun _=>id,hb⟩) hl hG.tab hG.pow hG.big a hG.early hG.errT).mono ?_
  rintro q w' ⟨h1,h2⟩
  rw [hp] at h2
  exact ⟨h1,h2⟩
theorem owns_down {w:World} {B B' e z n:Nat} {v:Value} {xs:List Value} (h:w.ownsRow B e z v n xs) (hB:B' ≤ B):w.ownsRow B' e z v n xs:=by
  refine ⟨h.1,?_⟩
  rcases h.2 with x | ⟨g,cap,cur,h1,h2,h3⟩
  · exact .inl x
  · exact .inr ⟨g,cap,cur,h1,Nat.le_trans hB h2,h3⟩
set_option maxHeartbeats 8000000 in
set_option maxRecDepth 100000 in
theorem cn_one (hDk:Dok X D) {T:Array Value} {z4:Int} {a:Addr} {bh g cg:Nat} {l:List UInt8} {s:Shd} (hT:TC2 (.int .i64 z4) x5 x6 pb vb (.slice (some ⟨bh,0,none⟩) N N) T) (hz:In64 z4) (hS:SmP K N C m f Dt pb vb w) (hG:Gl a w) (hN:0 < N) (hN2:N≤128) (hcell:w.cell? ⟨bh,pickN z4 N,none⟩=some (.slice (some ⟨g,0,none⟩) l.length cg)) (hb:Byt w g 0 l) (hcap:l.length≤cg) (hl:l.length≤4611686018427387904) (hp:parseE l = .ok s)
    (hnext:∀ (T':Array Value) (sb:Nat) (vN vS vC:Value) (w':World),TC3 x5 x6 pb vb (pickN z4 N) (.slice (some ⟨g,0,none⟩) l.length cg) sb T' → RowAt w' sb [.int .i64 (s.k:Int),.int .i64 (s.n:Int),.int .i64 (s.i:Int),.int .i64 (s.c:Int),vN,vS,vC] 36→Bel w.heap.size w w' →
      w'.ownsRow w.heap.size 9 1 vN s.names.length (strsV s.names)→w'.ownsRow w.heap.size 3 1 vS s.sizes.length (natV s.sizes)→w'.ownsRow w.heap.size 5 1 vC s.col.length (u8V s.col) →
      ReaR Tryz.prog X Y D Stop none [] 3 [] [.code cn9] T' w') :
    ReaR Tryz.prog X Y D Stop none [] 3 [] [.code cn4] T w:=by
  obtain ⟨q,rfl⟩:=hT
  unfold Tc
  rw [cn4_eq]
  have hpk:pickN z4 N < N:=pickN_lt z4 hN
  have hiN:((pickN z4 N:Nat):Int) < (N:Int):=by omega
  refine reaR_split hDk (reaR_go goodP hDk (by kernel_rfl) sfcn fun R hR τ d => ?_)
  have c1:({ w with tape:=τ,drawn:=d }:World).cell? ⟨pb,1,none⟩=some (.int .i64 (N:Int)):=hS.par.cell (i:=1) rfl
  have bl:Bel w.heap.size w { w with tape:=τ,drawn:=d }:=(Bel.refl _ w).tp τ d
  generalize ({ w with tape:=τ,drawn:=d }:World)=wA at bl c1 ⊢
  simp only [cn4,cn3,gFst,gSnd,cnBody,Tryz.f3,Option.getD_some]
  go_wp2
  refine reaR_split hDk (reaR_go goodP hDk (by kernel_rfl) sfcn fun R hR τ d => ?_)
  replace c1:({ wA with tape:=τ,drawn:=d }:World).cell? ⟨pb,1,none⟩=some (.int .i64 (N:Int)):=c1
  replace bl:=bl.tp τ d
  generalize ({ wA with tape:=τ,drawn:=d }:World)=wB at bl c1 ⊢
  have kp:=pick_any z4 N (N:Int) rfl hz.1 hz.2 hN (by omega) wB
  simp only [cn4,cn3,gFst,gSnd,cnBody,Tryz.f3,Option.getD_some]
  go_wp2_with (first | (go_at_call 10;(with_reducible refine kp.mono ?_);rintro r w1 ⟨rfl,hw1⟩;obtain rfl:=hw1.symm))
  clear kp c1
  refine reaR_split hDk (reaR_go goodP hDk (by kernel_rfl) sfcn fun R hR τ d => ?_)
  replace bl:=bl.tp τ d
  generalize ({ wB with tape:=τ,drawn:=d }:World)=wC at bl ⊢
  have hc:=(bel_sub bl).cell hcell
  simp only [cn4,cn3,gFst,gSnd,cnBody,Tryz.f3,Option.getD_some]
  generalize pickN z4 N=i at *
  go_wp2
  clear hc
  refine reaR_split hDk (reaR_go goodP hDk (by kernel_rfl) sfcn fun R hR τ d => ?_)
  replace bl:=bl.tp τ d
  generalize ({ wC with tape:=τ,drawn:=d }:World)=wD at bl ⊢
  have kq:=parse_good (hG.sub (bel_sub bl)) ((bel_sub bl).byt hb) hcap hl hp
  simp only [cn4,cn3,gFst,gSnd,cnBody,Tryz.f3,Option.getD_some]
  go_wp2_with (first | (go_at_call 11;(with_reducible refine kq.mono ?_);rintro r w2 ⟨hb2,vN,vS,vC,rfl,o1,o2,o3⟩;obtain ⟨xN,yN,rfl⟩:=owns_form o1;obtain ⟨xS,yS,rfl⟩:=owns_form o2;obtain ⟨xC,yC,rfl⟩:=owns_form o3))
  clear kq
  have bl2:=(bl.trans (Bel.of hb2) bl.size').trans (Bel.of ((Below.refl w2.heap.size w2).alloc (Nat.le_refl _) (.cells #[.int .i64 (s.k:Int),.int .i64 (s.n:Int),.int .i64 (s.i:Int),.int .i64 (s.c:Int),.slice xN s.names.length yN,.slice xS s.sizes.length yS,.slice xC s.col.length yC] 36))) (Nat.le_trans bl.size' hb2.size)
  exact hnext _ w2.heap.size _ _ _ _ ⟨_,tcn_mk rfl⟩ (RowAt.made w2 _ _) bl2 (owns_down (o1.alloc _) bl.size') (owns_down (o2.alloc _) bl.size') (owns_down (o3.alloc _) bl.size')
end
noncomputable def qn9:{y:Array Oper // y=gOps (gFst cn9)}:=⟨_,by (simp only [cn9,cn4,cn3,cnBody,gFst,gSnd,gOps,Tryz.f3,Option.getD_some];rfl)⟩
noncomputable def nO9:Array Oper:=qn9.1
noncomputable def cn10:Code:=gSnd cn9
theorem cn9_eq:cn9 = .seq (.region 9 nO9 false) cn10:=by kernel_rfl
theorem nO9_size:nO9.size=7:=by kernel_rfl
noncomputable def cn12:Code:=gSnd cn10
noncomputable def cn17:Code:=gSnd cn12
noncomputable def cn25:Code:=gSnd (gSnd (gSnd (gSnd (gSnd (gSnd (gSnd cn17))))))
noncomputable def cn26:Code:=gSnd cn25
noncomputable def cn28:Code:=gSnd cn26
noncomputable def qn28:{y:Array Oper // y=gOps (gFst cn28)}:=⟨_,by (simp only [cn28,cn26,cn25,cn17,cn12,cn10,cn9,cn4,cn3,cnBody,gFst,gSnd,gOps,Tryz.f3,Option.getD_some];rfl)⟩
noncomputable def nO28:Array Oper:=qn28.1
noncomputable def cn29:Code:=gSnd cn28
theorem cn28_eq:cn28 = .seq (.region 28 nO28 false) cn29:=by kernel_rfl
theorem nO28_size:nO28.size=7:=by kernel_rfl
theorem cn29_eq:cn29 = .seq (gFst cn29) .ret:=by kernel_rfl
theorem cn26_eq:cn26 = .seq (.seq (gFst (gFst cn26)) (.cond (.tmp 219) (.seq (gFst (gThen (gSnd (gFst cn26)))) .ret) .skip)) cn28:=by kernel_rfl
def TC4 (x5 x6:Value) (pb:Nat) (vb:Value) (i:Nat) (vi:Value) (sb:Nat) (y:Value) (T:Array Value):Prop:=∃ f:Nat→Value,T=Tc f (f 4) (x5) (x6) (.pointer (some ⟨pb,0,none⟩)) (vb) (f 17) (f 18) (.int .i64 (i:Int)) (vi) (.pointer (some ⟨sb,0,none⟩)) (.int .i64 0) (.int .i64 0) (y) (.int .i64 0) (f 34) (f 35) (f 37) (f 38)
def TC5 (x6:Value) (sb:Nat) (e:Int) (T:Array Value):Prop:=∃ f:Nat→Value,T=Tc f (f 4) (f 5) (x6) (f 15) (f 16) (f 17) (f 18) (f 19) (f 20) (f 21) (f 22) (f 23) (f 24) (f 25) (.pointer (some ⟨sb,0,none⟩)) (.int .i64 e) (f 37) (f 38)
def TC6 (x6:Value) (y:Value) (T:Array Value):Prop:=∃ f:Nat→Value,T=Tc f (f 4) (f 5) (x6) (f 15) (f 16) (f 17) (f 18) (f 19) (f 20) (f 21) (f 22) (f 23) (f 24) (f 25) (f 34) (f 35) (y) (.int .i64 0)
section
variable {X:Nat→Prop} {Y:Nat→Option Obj} {D:Nat→World→Array Event→Prop} {Stop:Goroutine→World→Prop} {w:World} {x5 x6 vb vi:Value} {pb i sb:Nat}
set_option maxHeartbeats 8000000 in
set_option maxRecDepth 100000 in
theorem cn_write (hDk:Dok X D) {T:Array Value} {s:Sh} {vN vS vC:Value} (hT:TC3 x5 x6 pb vb i vi sb T) (hr:RowAt w sb [.int .i64 s.K,.int .i64 s.N,.int .i64 s.I,.int .i64 s.C,vN,vS,vC] 36) (h1:s.Fine) (h2:s.Listed) (h3:s.Few) (h4:s.Long) (h5:¬ s.Bad) (hIn:s.In w vN vS vC) (hTab:Tab w)
    (hnext:∀ (T':Array Value) (y:Value) (w':World),TC4 x5 x6 pb vb i vi sb y T' → OwnB w.heap.size w' y (wrB s)→Kept w w' → ReaR Tryz.prog X Y D Stop none [] 3 [] [.code cn10] T' w') :
    ReaR Tryz.prog X Y D Stop none [] 3 [] [.code cn9] T w:=by
  obtain ⟨q,rfl⟩:=hT
  unfold Tc
  obtain ⟨bc,capc,rfl,_,_⟩:=id hIn.col
  obtain ⟨bN,capN,rfl,_,_⟩:=id hIn.names
  obtain ⟨bS,capS,rfl,_,_⟩:=id hIn.sizes
  rw [cn9_eq]
  refine reaR_split hDk (reaR_region hDk ?_)
  rw [nO9_size]
  simp only [List.range,List.range.loop]
  refine reaR_op goodF hDk (shV s (.slice bN (nameV s.ns).length capN) (.slice bS (intV s.zs).length capS) (.slice bc (u8V s.col).length capc)) (by simp only [nO9,qn9];rfl) rfl (by kernel_rfl) (fun z hz=>by
    have hrz:RowAt z sb [.int .i64 s.K,.int .i64 s.N,.int .i64 s.I,.int .i64 s.C,.slice bN (nameV s.ns).length capN,.slice bS (intV s.zs).length capS,.slice bc (u8V s.col).length capc] 36:=by
      show z.heap[sb]? = _
      rw [hz]
      exact hr
    have c0:=hrz.cell (i:=0) rfl
    have c1:=hrz.cell (i:=1) rfl
    have c2:=hrz.cell (i:=2) rfl
    have c3:=hrz.cell (i:=3) rfl
    have c4:=hrz.cell (i:=4) rfl
    have c5:=hrz.cell (i:=5) rfl
    have c6:=hrz.cell (i:=6) rfl
    unfold shV
    go_simp) ?_
  walk_nrm
  refine reaR_call hDk (by simp only [nO9,qn9];rfl) rfl (by rfl) Tryz.func12 (by kernel_rfl) (c:=cwBody) (by kernel_rfl) (vs:=#[shV s (.slice bN (nameV s.ns).length capN) (.slice bS (intV s.zs).length capS) (.slice bc (u8V s.col).length capc)]) (n:=16) (by simp [Act.eval]) (by kernel_rfl) ?_
  refine cwriteI hDk s h1 h2 h3 h4 h5 _ _ _ w hIn hTab fun y v' hO hK => ?_
  obtain ⟨xo,co,rfl⟩:=owns_form hO
  rw [Dn_finish (by simp only [nO9,qn9];rfl)]
  show ReaR _ _ _ _ _ _ _ _ _ _ _ _
  walk_nrm
  refine reaR_op goodF hDk (.tuple #[.slice xo (wrB s).length co,.int .i64 0]) (by simp only [nO9,qn9];rfl) rfl (by kernel_rfl) (fun z _=>by go_simp) ?_
  walk_nrm
  refine reaR_op goodF hDk (.slice xo (wrB s).length co) (by simp only [nO9,qn9];rfl) rfl (by kernel_rfl) (fun z _=>by go_simp) ?_
  walk_nrm
  refine reaR_op goodF hDk (.int .i64 0) (by simp only [nO9,qn9];rfl) rfl (by kernel_rfl) (fun z _=>by go_simp) ?_
  walk_nrm
  refine reaR_op goodF hDk (.slice xo (wrB s).length co) (by simp only [nO9,qn9];rfl) rfl (by kernel_rfl) (fun z _=>by go_simp) ?_
  walk_nrm
  refine reaR_op goodF hDk (.int .i64 0) (by simp only [nO9,qn9];rfl) rfl (by kernel_rfl) (fun z _=>by go_simp) ?_
  walk_nrm
  refine reaR_endReg hDk ?_
  exact hnext _ _ _ ⟨_,tcn_mk rfl⟩ hO hK
set_option maxHeartbeats 8000000 in
set_option maxRecDepth 100000 in
theorem cn_write2 (hDk:Dok X D) {T:Array Value} {s:Sh} {vN vS vC:Value} (hT:TC5 x6 sb 0 T) (hr:RowAt w sb [.int .i64 s.K,.int .i64 s.N,.int .i64 s.I,.int .i64 s.C,vN,vS,vC] 36) (h1:s.Fine) (h2:s.Listed) (h3:s.Few) (h4:s.Long) (h5:¬ s.Bad) (hIn:s.In w vN vS vC) (hTab:Tab w)
    (hnext:∀ (T':Array Value) (y:Value) (w':World),TC6 x6 y T' → OwnB w.heap.size w' y (wrB s)→Kept w w' → ReaR Tryz.prog X Y D Stop none [] 3 [] [.code cn29] T' w') :
    ReaR Tryz.prog X Y D Stop none [] 3 [] [.code cn28] T w:=by
  obtain ⟨q,rfl⟩:=hT
  unfold Tc
  obtain ⟨bc,capc,rfl,_,_⟩:=id hIn.col
  obtain ⟨bN,capN,rfl,_,_⟩:=id hIn.names
  obtain ⟨bS,capS,rfl,_,_⟩:=id hIn.sizes
  rw [cn28_eq]
  refine reaR_split hDk (reaR_region hDk ?_)
  rw [nO28_size]
  simp only [List.range,List.range.loop]
  refine reaR_op goodF hDk (shV s (.slice bN (nameV s.ns).length capN) (.slice bS (intV s.zs).length capS) (.slice bc (u8V s.col).length capc)) (by simp only [nO28,qn28];rfl) rfl (by kernel_rfl) (fun z hz=>by
    have hrz:RowAt z sb [.int .i64 s.K,.int .i64 s.N,.int .i64 s.I,.int .i64 s.C,.slice bN (nameV s.ns).length capN,.slice bS (intV s.zs).length capS,.slice bc (u8V s.col).length capc] 36:=by
      show z.heap[sb]? = _
      rw [hz]
      exact hr
    have c0:=hrz.cell (i:=0) rfl
    have c1:=hrz.cell (i:=1) rfl
    have c2:=hrz.cell (i:=2) rfl
    have c3:=hrz.cell (i:=3) rfl
    have c4:=hrz.cell (i:=4) rfl
    have c5:=hrz.cell (i:=5) rfl
    have c6:=hrz.cell (i:=6) rfl
    unfold shV
    go_simp) ?_
  walk_nrm
  refine reaR_call hDk (by simp only [nO28,qn28];rfl) rfl (by rfl) Tryz.func12 (by kernel_rfl) (c:=cwBody) (by kernel_rfl) (vs:=#[shV s (.slice bN (nameV s.ns).length capN) (.slice bS (intV s.zs).length capS) (.slice bc (u8V s.col).length capc)]) (n:=16) (by simp [Act.eval]) (by kernel_rfl) ?_
  refine cwriteI hDk s h1 h2 h3 h4 h5 _ _ _ w hIn hTab fun y v' hO hK => ?_
  obtain ⟨xo,co,rfl⟩:=owns_form hO
  rw [Dn_finish (by simp only [nO28,qn28];rfl)]
  show ReaR _ _ _ _ _ _ _ _ _ _ _ _
  walk_nrm
  refine reaR_op goodF hDk (.tuple #[.slice xo (wrB s).length co,.int .i64 0]) (by simp only [nO28,qn28];rfl) rfl (by kernel_rfl) (fun z _=>by go_simp) ?_
  walk_nrm
  refine reaR_op goodF hDk (.slice xo (wrB s).length co) (by simp only [nO28,qn28];rfl) rfl (by kernel_rfl) (fun z _=>by go_simp) ?_
  walk_nrm
  refine reaR_op goodF hDk (.int .i64 0) (by simp only [nO28,qn28];rfl) rfl (by kernel_rfl) (fun z _=>by go_simp) ?_
  walk_nrm
  refine reaR_op goodF hDk (.slice xo (wrB s).length co) (by simp only [nO28,qn28];rfl) rfl (by kernel_rfl) (fun z _=>by go_simp) ?_
  walk_nrm
  refine reaR_op goodF hDk (.int .i64 0) (by simp only [nO28,qn28];rfl) rfl (by kernel_rfl) (fun z _=>by go_simp) ?_
  walk_nrm
  refine reaR_endReg hDk ?_
  exact hnext _ _ _ ⟨_,tcn_mk rfl⟩ hO hK
end
section
variable {X:Nat→Prop} {Y:Nat→Option Obj} {D:Nat→World→Array Event→Prop} {Stop:Goroutine→World→Prop} {w:World} {x6:Value} {sb:Nat}
set_option maxHeartbeats 8000000 in
set_option maxRecDepth 100000 in
theorem cn_end_bad (hDk:Dok X D) {T:Array Value} {e:Int} (hT:TC5 x6 sb e T) (he:e≠0) (hfin:∀ (T':Array Value) (kk:List Item),T'.getD 14 undef = .bool true→ReaR Tryz.prog X Y D Stop none [] 3 [] (.code .ret :: kk) T' w) :
    ReaR Tryz.prog X Y D Stop none [] 3 [] [.code cn26] T w:=by
  obtain ⟨q,rfl⟩:=hT
  unfold Tc
  have e1:(e != 0)=true:=by simpa using he
  have e2:(e == 0)=false:=by simpa using he
  rw [cn26_eq]
  refine reaR_split hDk (reaR_split hDk (reaR_go goodP hDk (by kernel_rfl) sfcn fun R hR τ d => ?_))
  simp only [cn26,cn25,cn17,cn12,cn10,cn9,cn4,cn3,cnBody,gFst,gSnd,Tryz.f3,Option.getD_some]
  go_wp2
  change ReaR _ _ _ _ _ _ _ _ _ _ _ w
  refine reaR_cond (b:=true) hDk (by simp) (reaR_split hDk (reaR_go goodP hDk (by kernel_rfl) sfcn fun R hR τ d => ?_))
  simp only [cn26,cn25,cn17,cn12,cn10,cn9,cn4,cn3,cnBody,gFst,gSnd,gThen,Tryz.f3,Option.getD_some]
  go_wp2
  change ReaR _ _ _ _ _ _ _ _ _ _ _ w
  exact hfin _ _ rfl
set_option maxHeartbeats 8000000 in
set_option maxRecDepth 100000 in
theorem cn_end_ok (hDk:Dok X D) {T:Array Value} (hT:TC5 x6 sb 0 T) (hnext:∀ T',TC5 x6 sb 0 T' → ReaR Tryz.prog X Y D Stop none [] 3 [] [.code cn28] T' w) :
    ReaR Tryz.prog X Y D Stop none [] 3 [] [.code cn26] T w:=by
  obtain ⟨q,rfl⟩:=hT
  unfold Tc
  rw [cn26_eq]
  refine reaR_split hDk (reaR_split hDk (reaR_go goodP hDk (by kernel_rfl) sfcn fun R hR τ d => ?_))
  simp only [cn26,cn25,cn17,cn12,cn10,cn9,cn4,cn3,cnBody,gFst,gSnd,Tryz.f3,Option.getD_some]
  go_wp2
  change ReaR _ _ _ _ _ _ _ _ _ _ _ w
  refine reaR_cond (b:=false) hDk (by simp) (reaR_skip hDk ?_)
  exact hnext _ ⟨_,tcn_mk rfl⟩
set_option maxHeartbeats 8000000 in
set_option maxRecDepth 100000 in
theorem cn_last (hDk:Dok X D) {T:Array Value} {y:Value} {B:Nat} {l:List UInt8} (hl:0 < l.length) (hT:TC6 (.string ⟨l.toArray⟩) y T) (hO:OwnB B w y l) (hfin:∀ (T':Array Value) (kk:List Item),T'.getD 14 undef = .bool true→ReaR Tryz.prog X Y D Stop none [] 3 [] (.code .ret :: kk) T' w) :
    ReaR Tryz.prog X Y D Stop none [] 3 [] [.code cn29] T w:=by
  obtain ⟨q,rfl⟩:=hT
  unfold Tc
  obtain ⟨g,cg,rfl,_,_,_,_,hb⟩:=owns_byt hO hl
  rw [cn29_eq]
  refine reaR_split hDk (reaR_go goodP hDk (by kernel_rfl) sfcn fun R hR τ d => ?_)
  have hcv:=conv_part (w:={ w with tape:=τ,drawn:=d }) (bb:=g) (bo:=0) (l:=l) hb l.length rfl cg
  simp only [cn29,cn28,cn26,cn25,cn17,cn12,cn10,cn9,cn4,cn3,cnBody,gFst,gSnd,Tryz.f3,Option.getD_some]
  go_wp2
  change ReaR _ _ _ _ _ _ _ _ _ _ _ w
  exact hfin _ _ rfl
end
theorem cn10_eq:cn10 = .seq (gFst cn10) cn12:=by kernel_rfl
theorem cn12_eq:cn12 = .seq (gFst cn12) cn17:=by kernel_rfl
section
variable {X:Nat→Prop} {Y:Nat→Option Obj} {D:Nat→World→Array Event→Prop} {Stop:Goroutine→World→Prop} {w:World} {x5 x6:Value} {pb i sb K N C m:Nat}
set_option maxHeartbeats 8000000 in
set_option maxRecDepth 100000 in
theorem cn_cmp (hDk:Dok X D) {T:Array Value} {g cg gy cy:Nat} {l:List UInt8} {bo bN bS:Option Addr} {cap cN cS:Nat} {vC:Value} (hT:TC4 x5 x6 pb (.slice bo m cap) i (.slice (some ⟨g,0,none⟩) l.length cg) sb (.slice (some ⟨gy,0,none⟩) l.length cy) T)
    (hb:Byt w g 0 l) (hy:Byt w gy 0 l) (hp:RowAt w pb [.int .i64 ((K:Nat):Int),.int .i64 ((N:Nat):Int),.int .i64 ((C:Nat):Int)] 24) (hr:RowAt w sb [.int .i64 (K:Int),.int .i64 (N:Int),.int .i64 (i:Int),.int .i64 (C:Int),.slice bN m cN,.slice bS m cS,vC] 36)
    (hnext:∀ (T':Array Value),TC4 x5 x6 pb (.slice bo m cap) i (.slice (some ⟨g,0,none⟩) l.length cg) sb (.slice (some ⟨gy,0,none⟩) l.length cy) T' → ReaR Tryz.prog X Y D Stop none [] 3 [] [.code cn12] T' w) :
    ReaR Tryz.prog X Y D Stop none [] 3 [] [.code cn10] T w:=by
  obtain ⟨q,rfl⟩:=hT
  unfold Tc
  rw [cn10_eq]
  refine reaR_split hDk (reaR_go goodP hDk (by kernel_rfl) sfcn fun R hR τ d => ?_)
  have h1:=conv_part (w:={ w with tape:=τ,drawn:=d }) (bb:=g) (bo:=0) (l:=l) hb l.length rfl cg
  have h2:=conv_part (w:={ w with tape:=τ,drawn:=d }) (bb:=gy) (bo:=0) (l:=l) hy l.length rfl cy
  have p0:({ w with tape:=τ,drawn:=d }:World).cell? ⟨pb,0,none⟩=some (.int .i64 (K:Int)):=hp.cell (i:=0) rfl
  have p1:({ w with tape:=τ,drawn:=d }:World).cell? ⟨pb,1,none⟩=some (.int .i64 (N:Int)):=hp.cell (i:=1) rfl
  have p2:({ w with tape:=τ,drawn:=d }:World).cell? ⟨pb,2,none⟩=some (.int .i64 (C:Int)):=hp.cell (i:=2) rfl
  have c0:({ w with tape:=τ,drawn:=d }:World).cell? ⟨sb,0,none⟩=some (.int .i64 (K:Int)):=hr.cell (i:=0) rfl
  have c1:({ w with tape:=τ,drawn:=d }:World).cell? ⟨sb,1,none⟩=some (.int .i64 (N:Int)):=hr.cell (i:=1) rfl
  have c2:({ w with tape:=τ,drawn:=d }:World).cell? ⟨sb,2,none⟩=some (.int .i64 (i:Int)):=hr.cell (i:=2) rfl
  have c3:({ w with tape:=τ,drawn:=d }:World).cell? ⟨sb,3,none⟩=some (.int .i64 (C:Int)):=hr.cell (i:=3) rfl
  have c4:({ w with tape:=τ,drawn:=d }:World).cell? ⟨sb,4,none⟩=some (.slice bN m cN):=hr.cell (i:=4) rfl
  have c5:({ w with tape:=τ,drawn:=d }:World).cell? ⟨sb,5,none⟩=some (.slice bS m cS):=hr.cell (i:=5) rfl
  simp only [cn10,cn9,cn4,cn3,cnBody,gFst,gSnd,Tryz.f3,Option.getD_some]
  go_wp2
  change ReaR _ _ _ _ _ _ _ _ _ _ _ w
  exact hnext _ ⟨_,tcn_mk rfl⟩
end
end Go.Proofs.YtkpcmfgeanlcnabGreatDoor

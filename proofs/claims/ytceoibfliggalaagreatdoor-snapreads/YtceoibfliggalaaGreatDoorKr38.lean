/-
  TEXTS: AdF, AdG, LuE.
-/
import Derived.Test.YtceoibfliggalaaGreatDoorKr34
import Derived.Test.YtceoibfliggalaaGreatDoorKr35
import Derived.Test.YtceoibfliggalaaGreatDoorKr14
import Derived.Lib.AppendZeros
import Derived.Test.YtceoibfliggalaaGreatDoorKr11
namespace Go.Proofs.YtceoibfliggalaaGreatDoor
open Go.RowKit Wd Tr Cg Lg Go.Lib
theorem Tryz.infTurn:(Tryz.prog.info? 153).map (fun i=>(i.zero,i.size,i.bytes))=some (some (.agg #[.int .i64 0,.bool false,.slice none 0 0]),3,40):=by kernel_rfl
theorem grow_none (w:World):Calls Tryz.prog 177 #[.slice none 0 0,.int .i64 0] w fun e w'=>e=.returned (.slice none 0 0)∧w'=w:=by
 go_enter Tryz.func177,Tryz.ntmps177
 go_wp2
 go_ret
 exact⟨rfl,rfl⟩
set_option maxHeartbeats 1000000 in
set_option maxRecDepth 20000 in
theorem grow_some (w:World) (n:Nat) (h0:0<n) (hn:n≤1000000):Calls Tryz.prog 177 #[.slice none 0 0,.int .i64 n] w fun e w'=>∃v,e=.returned v∧w'.ownsRow w.heap.size 153 3 v 0 []∧Below w.heap.size w w':=by
 obtain⟨i0,hi0,hz0,hz1,hz2⟩:=info_parts Tryz.infTurn
 have hap:=run_append_nil_zeros (P:=Tryz.prog) w 150 3 150 153 i0 _ .i64 .i64 Tryz.underlying150 Tryz.underlying3 hi0 hz0 n h0 (by rw [hz1];omega) (by omega) (by rw [hz2];omega)
 have hge:=grownCap_ge w n 0 153
 have hle:=grownCap_le_maxLen w n 0 153 (by unfold maxLen;omega)
 obtain⟨C,hC⟩:∃C,grownCap w n 0 153=C:=⟨_,rfl⟩
 rw [hC]at hap hge hle
 obtain⟨W,hW⟩:∃W,(w.drew.alloc (.cells (Builtin.zeroCells (Value.agg #[.int .i64 0,.bool false,.slice none 0 0]).cells n++Builtin.zeroCells (Value.agg #[.int .i64 0,.bool false,.slice none 0 0]).cells (C - n)) 153))=W:=⟨_,rfl⟩
 have HO:Hid (W.ownsRow w.heap.size 153 3 (.slice (some ⟨w.heap.size,0,none⟩) 0 C) 0 []∧Below w.heap.size w W):=by
  constructor
  ·refine ⟨rfl,.inr ⟨w.heap.size,C,_,rfl,Nat.le_refl _,by rw [← hW];exact heap_alloc_new w.drew _,by omega,hle,?_,by simp⟩⟩
   simp [Builtin.zeroCells,Value.cells]
   omega
  ·rw [← hW]
   exact((Below.refl _ w).drew).alloc (by exact Nat.le_refl _) _
 rw [hW]at hap
 have h1:¬((n:Int)<0):=by omega
 have h2:(0:Int)<(n:Int):=by omega
 have hn':(n:Int)≤1000000:=by omega
 clear hC hW hge hle hn
 go_enter Tryz.func177,Tryz.ntmps177
 go_wp2_with (at_builtin;refine wpList_append_run _ rfl (.tmp 20) (.tmp 21) 150 3 rfl _ _ rfl rfl _ _ hap ?_)
 go_ret
 exact⟨_,rfl,HO.out⟩
theorem grow_any (w:World) (n:Nat) (hn:n≤1000000):Calls Tryz.prog 177 #[.slice none 0 0,.int .i64 n] w fun e w'=>∃v,e=.returned v∧w'.ownsRow w.heap.size 153 3 v 0 []∧Below w.heap.size w w':=by
 by_cases h:n=0
 ·subst h
  exact(grow_none w).mono (fun e w' h=>⟨_,h.1,by rw [h.2];exact own_nil _ _ _ _,by rw [h.2];exact Below.refl _ _⟩)
 ·exact grow_some w n (by omega) hn
theorem own_bel {W W':World} {B n:Nat} {v:Value} {xs:List Value} (h:W.ownsRow B 153 3 v n xs) (g:W.grownBy W' v.ownBlock) (hB:B≤W.heap.size):Below B W W':=⟨g.os,g.tape,g.output,g.size,fun k hk=>g.block k (by omega) (fun e=>by have:=(h.lt k e.symm).1;omega)⟩
theorem own_src {W:World} {B n c:Nat} {ga:Option Addr} {xs:List Value} (h:W.ownsRow B 153 3 (.slice ga n c) n xs):(ga=none→n=0∧c=0)∧∀ad,ga=some ad→∀j u,xs[j]?=some u→W.cell? (ad.add j)=some u:=by
 rcases h.2 with⟨h1,h2⟩ | ⟨g,cap,cur,h1,h2,h3,h4,h5,h6,h7⟩
 ·injection h1 with e1 e2 e3
  subst e1
  exact⟨fun _=>⟨h2,e3⟩,fun ad e=>by cases e⟩
 ·injection h1 with e1 e2 e3
  subst e1
  refine⟨(fun e=>by cases e),fun ad e j u hu=>?_⟩
  cases e
  rw [Addr.add_lit,Nat.zero_add]
  refine cells_at h3 ?_
  rw [← h7]at hu
  have hj:=(List.getElem?_eq_some_iff.1 hu).1
  rw [List.length_take]at hj
  rw [List.getElem?_take_of_lt (by omega)]at hu
  simpa using hu
set_option maxHeartbeats 2000000 in
set_option maxRecDepth 20000 in
theorem concat_any {S:Slx} {w:World} {q B B' na nb ca cb:Nat} {ga gb:Option Addr} (A D:List Ev) (hA:w.ownsRow B 153 3 (.slice ga na ca) na (flatE S A)) (hD:w.ownsRow B' 153 3 (.slice gb nb cb) nb (flatE S D)) (hla:A.length=na) (hlb:D.length=nb) (hsz:na+nb≤1000000)
  (q0:w.cell? ⟨q,0,none⟩=some (.slice ga na ca)) (q1:w.cell? ⟨q,1,none⟩=some (.slice gb nb cb)):
  Calls Tryz.prog 149 #[.slice (some ⟨q,0,none⟩) 2 2] w fun e w'=>∃v,e=.returned v∧w'.ownsRow w.heap.size 153 3 v (na+nb) (flatE S (A++D))∧Below w.heap.size w w':=by
 obtain⟨i0,hi0,hz0,hz1,hz2⟩:=info_parts Tryz.infTurn
 have HSA:=own_src hA
 have HSB:=own_src hD
 have cG:=grow_any w (na+nb) hsz
 have hn1:(na:Int)≤1000000:=by omega
 have hn2:(nb:Int)≤1000000:=by omega
 have HL:Hid ((flatE S A).length=na*3∧(flatE S D).length=nb*3∧na+nb≤1000000):=⟨by rw [flatE_len,hla],by rw [flatE_len,hlb],hsz⟩
 have HS:Hid ((∀x,Below w.heap.size w x→∀ad,ga=some ad→∀j u,(flatE S A)[j]?=some u→x.cell? (ad.add j)=some u)∧(∀x,Below w.heap.size w x→∀ad,gb=some ad→∀j u,(flatE S D)[j]?=some u→x.cell? (ad.add j)=some u)):=⟨fun x hx ad e j u hu=>cellB hx (HSA.2 ad e j u hu),fun x hx ad e j u hu=>cellB hx (HSB.2 ad e j u hu)⟩
 have HNA:Hid (ga=none→na=0∧ca=0):=HSA.1
 have HNB:Hid (gb=none→nb=0∧cb=0):=HSB.1
 have w0:((na+nb:Nat):Int)=(na:Int)+(nb:Int):=by omega
 rw [w0]at cG
 clear hA hD hla hlb hsz HSA HSB w0
 go_enter Tryz.func149,Tryz.ntmps149
 go_wp2
 refine wp_loop_rounds 3 ?_
 rw [rounds_succ]
 go_wp2
 rw [rounds_succ]
 go_wp2
 rw [rounds_succ]
 go_upto_region 10 with(go_at_call 177;refine cG.mono ?_;rintro e w1 ⟨v,rfl,hr1,hb1⟩)
 have q0':=cellB hb1 q0
 have q1':=cellB hb1 q1
 have HR1:Hid (w1.ownsRow w.heap.size 153 3 v 0 []):=hr1
 have HB1:Hid (Below w.heap.size w w1):=hb1
 have HC1:=HS.out.1 w1 hb1
 have hsz1:=hb1.size
 clear hr1 hb1 cG
 go_wp2
 refine wp_loop_rounds 3 ?_
 rw [rounds_succ]
 go_wp2_with (at_builtin;refine wpList_append_mv rfl (.tmp 31) (.tmp 32) 150 rfl w.heap.size 153 i0 _ 3 40 Tryz.underlying150 hi0 hz0 hz1 hz2 rfl (by decide) v 0 [] rfl HR1.out ga na ca (flatE S A) rfl HNA.out HL.out.1 HC1 (flatE_one S A) ?_ ?_ ?_ ?_;exact(Nat.le_trans (m:=35184372088832) (by omega) (by decide));omega;exact hsz1;intro v2 w2 r2 g2 m2;rw [Nat.zero_add,List.nil_append]at r2;have hb2:Below w.heap.size w w2:=HB1.out.trans (own_bel HR1.out g2 hsz1);have q1'':=cellB hb2 q1)
 have HR2:Hid (w2.ownsRow w.heap.size 153 3 v2 na (flatE S A)):=r2
 have HB2:Hid (Below w.heap.size w w2):=hb2
 have HC2:=HS.out.2 w2 hb2
 have hsz2:=hb2.size
 clear r2 g2 m2 hb2 HC1 q0' q1' hsz1
 rw [rounds_succ]
 go_wp2_with (at_builtin;refine wpList_append_mv rfl (.tmp 31) (.tmp 32) 150 rfl w.heap.size 153 i0 _ 3 40 Tryz.underlying150 hi0 hz0 hz1 hz2 rfl (by decide) v2 na (flatE S A) rfl HR2.out gb nb cb (flatE S D) rfl HNB.out HL.out.2.1 HC2 (flatE_one S D) ?_ ?_ ?_ ?_;exact(Nat.le_trans (m:=35184372088832) (by omega) (by decide));omega;exact hsz2;intro v3 w3 r3 g3 m3)
 have HR3:Hid (w3.ownsRow w.heap.size 153 3 v3 (na+nb) (flatE S (A++D))∧Below w.heap.size w w3):=⟨by rw [flatE_app];exact r3,HB2.out.trans (own_bel HR2.out g3 hsz2)⟩
 clear r3 g3 m3 HC2 q1'' hsz2
 rw [rounds_succ]
 go_wp2
 go_ret
 exact⟨v3,rfl,HR3.out⟩
def slxOf (ps:List Pj):Slx:=⟨fun k=>match ps[k]? with | none=>none | some p=>p.sa,fun k=>match ps[k]? with | none=>0 | some p=>p.v.set.length,fun k=>match ps[k]? with | none=>0 | some p=>p.sc⟩
structure Tu (S:Slx) (w0 wr:World) (v3 v4:Value) (gs ts:List Ev):Prop where
 g:wr.ownsRow w0.heap.size 153 3 v3 gs.length (flatE S gs)
 t:wr.ownsRow w0.heap.size 153 3 v4 ts.length (flatE S ts)
 d:∀b,v3.ownBlock=some b→v4.ownBlock≠some b
 bel:Below w0.heap.size w0 wr
section
variable {S:Slx} {w0 wr X w7:World} {v3 v4 v7:Value} {gs ts:List Ev} {e:Ev}
theorem Tu.on (h:Tu S w0 wr v3 v4 gs ts) (b:Below wr.heap.size wr X):Tu S w0 X v3 v4 gs ts:=
 ⟨row_stand h.g (fun k hk=>b.block k (h.g.lt k hk).2),row_stand h.t (fun k hk=>b.block k (h.t.lt k hk).2),h.d,h.bel.trans (b.mono h.bel.size)⟩
theorem Tu.take (h:Tu S w0 X v3 v4 gs ts) (r7:w7.ownsRow w0.heap.size 153 3 v7 (ts.length+1) (flatE S ts++flatE S [e])) (g7:X.grownBy w7 v4.ownBlock) (m7:v7.ownBlock=v4.ownBlock∨v7.ownBlock=some X.heap.size):Tu S w0 w7 v3 v7 gs (ts++ [e]):=by
 refine⟨row_stand h.g (fun k hk=>g7.block k (h.g.lt k hk).2 (fun q=>h.d k hk q.symm)),by rw [flatE_app,List.length_append];exact r7,fun k hk q=>?_,h.bel.trans (own_bel h.t g7 h.bel.size)⟩
 rcases m7 with m | m
 ·rw [m]at q;exact h.d k hk q
 ·rw [m]at q;have:=(h.g.lt k hk).2;cases q;omega
theorem Tu.give (h:Tu S w0 X v3 v4 gs ts) (r7:w7.ownsRow w0.heap.size 153 3 v7 (gs.length+1) (flatE S gs++flatE S [e])) (g7:X.grownBy w7 v3.ownBlock) (m7:v7.ownBlock=v3.ownBlock∨v7.ownBlock=some X.heap.size):Tu S w0 w7 v7 v4 (gs++ [e]) ts:=by
 refine⟨by rw [flatE_app,List.length_append];exact r7,row_stand h.t (fun k hk=>g7.block k (h.t.lt k hk).2 (fun q=>h.d k q.symm hk)),fun k hk q=>?_,h.bel.trans (own_bel h.g g7 h.bel.size)⟩
 rcases m7 with m | m
 ·rw [m]at hk;exact h.d k hk q
 ·rw [m]at hk;have:=(h.t.lt k q).2;cases hk;omega
end
theorem three_cells (Y:World) (a b c:Value) (t:TypeId):∀ad,some (⟨Y.heap.size,0,none⟩:Addr)=some ad→∀j u,[a,b,c][j]?=some u→(Y.alloc (.cells #[a,b,c] t)).cell? (ad.add j)=some u:=by
 intro ad e j u hu
 cases e
 rw [Addr.add_lit,Nat.zero_add]
 refine cells_at (heap_alloc_new Y _) ?_
 simpa using hu
set_option maxHeartbeats 4000000 in
set_option maxRecDepth 20000 in
theorem turnsOf_any {w:World} {jo:Option Addr} {ps:List Pj} {cj:Nat} (hJ:PjsAt w jo ps) (hl:ps.length≤4096):
  Calls Tryz.prog 109 #[.slice jo ps.length cj] w fun e w'=>∃(v:Value) (C:List Ev),e=.returned v∧C.Perm (evA (ps.map Pj.v))∧SrtE C∧w'.ownsRow w.heap.size 153 3 v C.length (flatE (slxOf ps) C)∧Below w.heap.size w w':=by
 obtain⟨i0,hi0,hz0,hz1,hz2⟩:=info_parts Tryz.infTurn
 obtain⟨g,o,hg,hrow⟩:=row_at hJ
 have HROW:Hid (∀x,Below w.heap.size w x→∀(k:Nat) (q:Pj),ps[k]?=some q→JbAt x g (o+k*8) q.jb):=hrow
 have HGET:Hid (∀k,k<ps.length→∃q,ps[k]?=some q∧(ps.map Pj.v)[k]?=some q.v):=fun k hk=>⟨_,List.getElem?_eq_getElem hk,vmap_at (List.getElem?_eq_getElem hk)⟩
 have HSX:Hid (∀(k:Nat) (q:Pj),ps[k]?=some q→(slxOf ps).so k=q.sa∧(slxOf ps).sl k=q.v.set.length∧(slxOf ps).sc k=q.sc):=fun k q h=>by simp [slxOf,h]
 have HST:Hid (∀x (p:Pj),Calls Tryz.prog 148 #[pjV p] x fun e w'=>e=.returned (.bool (startB p.v.st))∧Below x.heap.size x w'):=fun x p=>started_any p
 have HVL:Hid ((ps.map Pj.v).length=ps.length):=by show (ps.map Pj.v).length=ps.length;simp
 obtain⟨S,hS⟩:∃S,slxOf ps=S:=⟨_,rfl⟩
 rw [hS]at HSX ⊢
 obtain⟨vs,hvs⟩:∃vs,ps.map Pj.v=vs:=⟨_,rfl⟩
 rw [hvs]at HGET HVL ⊢
 obtain⟨N,hN⟩:∃N,ps.length=N:=⟨_,rfl⟩
 rw [hN]at hl hg HGET HVL ⊢
 have HG:Hid (0<N→jo=some ⟨g,o,none⟩):=hg
 clear hN hg hrow hJ hvs hS
 have hlI:(N:Int)≤4096:=by omega
 go_enter Tryz.func109,Tryz.ntmps109
 go_wp2
 go_loopg [3,4,10] N (fun gk z3 z4 z10 wr=>∃(k:Nat) (v3 v4:Value),k+gk=N∧v3=z3∧v4=z4∧z10=.int .i64 (k:Int)∧(evL evG vs k).length≤k∧(evL evT vs k).length≤k∧Tu S w wr v3 v4 (evL evG vs k) (evL evT vs k))
 case atStart=>exact⟨0,_,_,by omega,rfl,rfl,rfl,by simp [evL],by simp [evL],⟨own_nil _ _ _ _,own_nil _ _ _ _,(fun b e=>by cases e),Below.refl _ _⟩⟩
 case round=>
  obtain⟨k,v3,v4,hk,rfl,rfl,rfl,hgl,htl,htu⟩:=hrel
  have HK:Hid (k+gk=N):=hk
  have HTU:Hid (Tu S w wr v3 v4 (evL evG vs k) (evL evT vs k)):=htu
  clear htu
  by_cases hlt:k<N
  ·have hlt':(k:Int)<(N:Int):=by omega
   obtain⟨p,hp,hv⟩:=HGET.out k hlt
   obtain rfl:=HG.out (by omega)
   obtain⟨y0,y1,y2,y3,y4,y5,y6,y7⟩:=HROW.out wr HTU.out.bel k p hp
   obtain⟨sx1,sx2,sx3⟩:=HSX.out k p hp
   have HG1:Hid (evL evG vs (k+1)=evL evG vs k++evG p.v k):=evL_succ _ hv
   have HT1:Hid (evL evT vs (k+1)=evL evT vs k++evT p.v k):=evL_succ _ hv
   have cS:=fun x=>HST.out x p
   clear hp hv
   obtain⟨⟨ac,nd,lm,sb,st,sr,en,xs⟩,sa,sc⟩:=p
   dsimp only [Pj.jb]at y0 y1 y2 y3 y4 y5 y6 y7 HG1 HT1 sx1 sx2 sx3
   unfold pjV at cS
   dsimp only at cS
   obtain⟨X,hX⟩:∃X,wr.alloc (.cells #[.int .i64 ac,.int .i64 nd,.int .i64 lm,.int .i64 sb,.int .i64 st,.int .i64 sr,.int .i64 en,.slice sa xs.length sc] 55)=X:=⟨_,rfl⟩
   have hbX:Below wr.heap.size wr X:=by rw [← hX];exact(Below.refl _ wr).alloc (Nat.le_refl _) _
   have n0:X.cell? ⟨wr.heap.size,0,none⟩=some (.int .i64 ac):=by rw [← hX];exact cells_at (heap_alloc_new wr _) rfl
   have n1:X.cell? ⟨wr.heap.size,1,none⟩=some (.int .i64 nd):=by rw [← hX];exact cells_at (heap_alloc_new wr _) rfl
   have n2:X.cell? ⟨wr.heap.size,2,none⟩=some (.int .i64 lm):=by rw [← hX];exact cells_at (heap_alloc_new wr _) rfl
   have n3:X.cell? ⟨wr.heap.size,3,none⟩=some (.int .i64 sb):=by rw [← hX];exact cells_at (heap_alloc_new wr _) rfl
   have n4:X.cell? ⟨wr.heap.size,4,none⟩=some (.int .i64 st):=by rw [← hX];exact cells_at (heap_alloc_new wr _) rfl
   have n5:X.cell? ⟨wr.heap.size,5,none⟩=some (.int .i64 sr):=by rw [← hX];exact cells_at (heap_alloc_new wr _) rfl
   have n6:X.cell? ⟨wr.heap.size,6,none⟩=some (.int .i64 en):=by rw [← hX];exact cells_at (heap_alloc_new wr _) rfl
   have n7:X.cell? ⟨wr.heap.size,7,none⟩=some (.slice sa xs.length sc):=by rw [← hX];exact cells_at (heap_alloc_new wr _) rfl
   have HTX:Hid (Tu S w X v3 v4 (evL evG vs k) (evL evT vs k)):=HTU.out.on hbX
   go_upto_region 5 with fail
   try rw [hX]
   clear hX y0 y1 y2 y3 y4 y5 y6 y7 hbX
   cases hs:startB st with
   | false=>
    rw [hs]at cS
    have HNG:Hid (evG ⟨ac,nd,lm,sb,st,sr,en,xs⟩ k= []∧evT ⟨ac,nd,lm,sb,st,sr,en,xs⟩ k= []):=⟨by simp [evG,actB,hs],by simp [evT,actB,hs]⟩
    clear hs
    go_wp2_with (go_at_call 148;refine(cS _).mono ?_;rintro e Y1 ⟨rfl,hb1⟩)
    have HTY:Hid (Tu S w Y1 v3 v4 (evL evG vs k) (evL evT vs k)):=HTX.out.on hb1
    clear hb1
    go_roundg (N - (k+1))
    case measure=>have:=HK.out;omega
    case rel=>exact⟨k+1,_,_,by omega,rfl,rfl,by simp,by rw [HG1.out,HNG.out.1,List.append_nil];omega,by rw [HT1.out,HNG.out.2,List.append_nil];omega,by rw [HG1.out,HT1.out,HNG.out.1,HNG.out.2,List.append_nil,List.append_nil];exact HTY.out⟩
   | true=>
    rw [hs]at cS
    by_cases hse:sr=en
    ·subst hse
     have HNG:Hid (evG ⟨ac,nd,lm,sb,st,sr,sr,xs⟩ k= []∧evT ⟨ac,nd,lm,sb,st,sr,sr,xs⟩ k= []):=⟨by simp [evG,actB],by simp [evT,actB]⟩
     clear hs
     go_wp2_with (go_at_call 148;refine(cS _).mono ?_;rintro e Y1 ⟨rfl,hb1⟩;have b5:=cellB hb1 n5;have b6:=cellB hb1 n6)
     have HTY:Hid (Tu S w Y1 v3 v4 (evL evG vs k) (evL evT vs k)):=HTX.out.on hb1
     clear hb1
     go_roundg (N - (k+1))
     case measure=>have:=HK.out;omega
     case rel=>exact⟨k+1,_,_,by omega,rfl,rfl,by simp,by rw [HG1.out,HNG.out.1,List.append_nil];omega,by rw [HT1.out,HNG.out.2,List.append_nil];omega,by rw [HG1.out,HT1.out,HNG.out.1,HNG.out.2,List.append_nil,List.append_nil];exact HTY.out⟩
    ·have HNT:Hid (evT ⟨ac,nd,lm,sb,st,sr,en,xs⟩ k= [⟨sr,true,k⟩]):=by show evT ⟨ac,nd,lm,sb,st,sr,en,xs⟩ k=_;simp [evT,actB,hs,hse]
     have HNG:Hid (evG ⟨ac,nd,lm,sb,st,sr,en,xs⟩ k=if st=2 then []else [⟨en,false,k⟩]):=by
      show evG ⟨ac,nd,lm,sb,st,sr,en,xs⟩ k=_
      by_cases h2:st=2
      ·simp [evG,h2]
      ·simp [evG,actB,hs,hse,h2]
     clear hs
     go_upto_region 6 with(go_at_call 148;refine(cS _).mono ?_;rintro e Y1 ⟨rfl,hb1⟩;have b5:=cellB hb1 n5;have b6:=cellB hb1 n6)
     have b4:=cellB hb1 n4
     have b7:=cellB hb1 n7
     have HTY:Hid (Tu S w Y1 v3 v4 (evL evG vs k) (evL evT vs k)):=HTX.out.on hb1
     clear hb1 cS n0 n1 n2 n3 n4 n5 n6 n7 HTX
     obtain⟨Y2,hY2⟩:∃Y2,Y1.alloc (.cells #[.int .i64 sr,.bool true,.slice sa xs.length sc] 153)=Y2:=⟨_,rfl⟩
     have hb2:Below Y1.heap.size Y1 Y2:=by rw [← hY2];exact(Below.refl _ Y1).alloc (Nat.le_refl _) _
     have HTY2:Hid (Tu S w Y2 v3 v4 (evL evG vs k) (evL evT vs k)):=HTY.out.on hb2
     have HC3:Hid (∀ad,some (⟨Y1.heap.size,0,none⟩:Addr)=some ad→∀j u,(flatE S [⟨sr,true,k⟩])[j]?=some u→Y2.cell? (ad.add j)=some u):=by
      rw [← hY2]
      simp only [flatE,sx1,sx2,sx3]
      exact three_cells Y1 _ _ _ _
     have hsw:=HTY2.out.bel.size
     have d4:=cellB hb2 b4
     have d6:=cellB hb2 b6
     have d7:=cellB hb2 b7
     have HBX2:Hid (wr.heap.size<Y2.heap.size):=World.block_lt_of_cell? Y2 ⟨wr.heap.size,4,none⟩ d4
     have HNB:Hid (v4.ownBlock≠some wr.heap.size∧v3.ownBlock≠some wr.heap.size):=⟨fun q=>by have:=(HTU.out.t.lt _ q).2;omega,fun q=>by have:=(HTU.out.g.lt _ q).2;omega⟩
     have HRT:=HTY2.out.t
     have HTL:Hid ((evL evT vs k).length≤k):=htl
     generalize hlt3:(evL evT vs k).length=LT at HRT
     have HLT:Hid ((evL evT vs k).length=LT):=hlt3
     have hLT:LT≤4096:=by omega
     clear hb2 hlt3
     go_upto_region 7 with(at_builtin;refine wpList_append_mv rfl (.tmp 24) (.tmp 30) 150 rfl w.heap.size 153 i0 _ 3 40 Tryz.underlying150 hi0 hz0 hz1 hz2 rfl (by decide) v4 LT (flatE S (evL evT vs k)) rfl HRT (some ⟨Y1.heap.size,0,none⟩) 1 1 (flatE S [⟨sr,true,k⟩]) rfl (fun e=>by cases e) rfl HC3.out (flatE_one S _) ?_ ?_ ?_ ?_;exact(Nat.le_trans (m:=35184372088832) (by omega) (by decide));omega;exact hsw;intro v7 w7 r7 g7 m7)
     have HT7:Hid (Tu S w w7 v3 v7 (evL evG vs k) (evL evT vs k++ [⟨sr,true,k⟩])):=HTY2.out.take (by rw [HLT.out];exact r7) g7 m7
     have e4:w7.cell? ⟨wr.heap.size,4,none⟩=some (.int .i64 st):=g7.cell d4 (fun q=>HNB.out.1 q.symm)
     have e6:w7.cell? ⟨wr.heap.size,6,none⟩=some (.int .i64 en):=g7.cell d6 (fun q=>HNB.out.1 q.symm)
     have e7:w7.cell? ⟨wr.heap.size,7,none⟩=some (.slice sa xs.length sc):=g7.cell d7 (fun q=>HNB.out.1 q.symm)
     clear r7 g7 m7 HRT hLT d4 d6 d7 b4 b5 b6 b7 hY2 hsw HC3 HTY HTY2
     by_cases h2:st=2
     ·subst h2
      go_wp2
      go_roundg (N - (k+1))
      case measure=>have:=HK.out;omega
      case rel=>exact⟨k+1,_,_,by omega,rfl,rfl,by simp,by rw [HG1.out,HNG.out];(first | rw [if_pos rfl] | rw [if_pos trivial]);rw [List.append_nil];omega,by rw [HT1.out,HNT.out,List.length_append];simp;exact HTL.out,by rw [HG1.out,HT1.out,HNT.out,HNG.out];(first | rw [if_pos rfl] | rw [if_pos trivial]);rw [List.append_nil];exact HT7.out⟩
     ·obtain ⟨Y3,hY3⟩:∃Y3,w7.alloc (.cells #[.int .i64 en,.bool false,.slice sa xs.length sc] 153)=Y3:=⟨_,rfl⟩
      have hb3:Below w7.heap.size w7 Y3:=by rw [← hY3];exact(Below.refl _ w7).alloc (Nat.le_refl _) _
      have HTY3:Hid (Tu S w Y3 v3 v7 (evL evG vs k) (evL evT vs k++ [⟨sr,true,k⟩])):=HT7.out.on hb3
      have HC4:Hid (∀ad,some (⟨w7.heap.size,0,none⟩:Addr)=some ad→∀j u,(flatE S [⟨en,false,k⟩])[j]?=some u→Y3.cell? (ad.add j)=some u):=by
       rw [← hY3]
       simp only [flatE,sx1,sx2,sx3]
       exact three_cells w7 _ _ _ _
      have hsw3:=HTY3.out.bel.size
      have HRG:=HTY3.out.g
      have HGL:Hid ((evL evG vs k).length≤k):=hgl
      generalize hlg3:(evL evG vs k).length=LG at HRG
      have HLG:Hid ((evL evG vs k).length=LG):=hlg3
      have hLG:LG≤4096:=by omega
      clear hb3 hlg3
      go_wp2_with (at_builtin;refine wpList_append_mv rfl (.tmp 35) (.tmp 41) 150 rfl w.heap.size 153 i0 _ 3 40 Tryz.underlying150 hi0 hz0 hz1 hz2 rfl (by decide) v3 LG (flatE S (evL evG vs k)) rfl HRG (some ⟨w7.heap.size,0,none⟩) 1 1 (flatE S [⟨en,false,k⟩]) rfl (fun e=>by cases e) rfl HC4.out (flatE_one S _) ?_ ?_ ?_ ?_;exact(Nat.le_trans (m:=35184372088832) (by omega) (by decide));omega;exact hsw3;intro v8 w8 r8 g8 m8)
      have HT8:Hid (Tu S w w8 v8 v7 (evL evG vs k++ [⟨en,false,k⟩]) (evL evT vs k++ [⟨sr,true,k⟩])):=HTY3.out.give (by rw [HLG.out];exact r8) g8 m8
      clear r8 g8 m8 HRG hLG hY3 hsw3 HC4 HTY3
      go_roundg (N - (k+1))
      case measure=>have:=HK.out;omega
      case rel=>exact⟨k+1,_,_,by omega,rfl,rfl,by simp,by rw [HG1.out,HNG.out,if_neg h2,List.length_append];simp;exact HGL.out,by rw [HT1.out,HNT.out,List.length_append];simp;exact HTL.out,by rw [HG1.out,HT1.out,HNT.out,HNG.out,if_neg h2];exact HT8.out⟩
  ·obtain rfl:k=N:=by omega
   have HEV:Hid (evL evG vs k++evL evT vs k=evA vs):=by show _=evA vs;unfold evA;rw [HVL.out]
   obtain⟨G,hG⟩:∃G,evL evG vs k=G:=⟨_,rfl⟩
   obtain⟨T,hT⟩:∃T,evL evT vs k=T:=⟨_,rfl⟩
   rw [hG,hT]at HTU HEV
   rw [hG]at hgl
   rw [hT]at htl
   clear hG hT
   obtain⟨ga,ca,rfl,hca,_,_⟩:=own_val HTU.out.g
   obtain⟨gb,cb,rfl,hcb,_,_⟩:=own_val HTU.out.t
   obtain⟨LG,hLG⟩:∃LG,G.length=LG:=⟨_,rfl⟩
   obtain⟨LT,hLT⟩:∃LT,T.length=LT:=⟨_,rfl⟩
   obtain⟨X,hX⟩:∃X,wr.alloc (.cells #[.slice ga LG ca,.slice gb LT cb] 150)=X:=⟨_,rfl⟩
   have hbX:Below wr.heap.size wr X:=by rw [← hX];exact(Below.refl _ wr).alloc (Nat.le_refl _) _
   have x0:X.cell? ⟨wr.heap.size,0,none⟩=some (.slice ga LG ca):=by rw [← hX];exact cells_at (heap_alloc_new wr _) rfl
   have x1:X.cell? ⟨wr.heap.size,1,none⟩=some (.slice gb LT cb):=by rw [← hX];exact cells_at (heap_alloc_new wr _) rfl
   have HTX:=HTU.out.on hbX
   have HBX:Hid (Below w.heap.size w X):=HTX.bel
   have tg:=HTX.g
   have tt:=HTX.t
   rw [hLG]at tg hgl
   rw [hLT]at tt htl
   have cC:=concat_any (S:=S) (w:=X) (q:=wr.heap.size) G T tg tt hLG hLT (by omega) x0 x1
   have HLL:Hid ((G++T).length=LG+LT∧LG+LT≤10000):=⟨by rw [List.length_append,hLG,hLT],by omega⟩
   rw [hLG,hLT]
   clear tg tt HTX hgl htl hLG hLT hca hcb x0 x1 hbX
   rw [HEV.out]at cC HLL
   go_upto_region 11 with(go_at_call 149;refine cC.mono ?_;rintro e Y1 ⟨v,rfl,hr1,hb1⟩)
   have HB1:Hid (Below w.heap.size w Y1):=HBX.out.trans (hb1.mono HBX.out.size)
   clear cC
   have HCL:Hid (Calls Tryz.prog 150 #[v,.func (.func 151) #[] #[]] Y1 fun e w'=>e=.returned (.tuple #[])∧∃C,C.Perm (evA vs)∧SrtE C∧w'.ownsRow w.heap.size 153 3 v C.length (flatE S C)∧Below w.heap.size w w'):=by
    rcases hr1.2 with⟨h1,h0⟩ | ⟨b,cap,cur,h1,hge,h3,h4,h5,h6,h7⟩
    ·have e0:evA vs= []:=List.eq_nil_of_length_eq_zero (by rw [HLL.out.1];exact h0)
     rw [h1]
     refine(sort_none (w:=Y1)).mono ?_
     rintro e w' ⟨rfl,rfl⟩
     exact⟨rfl,[],by rw [e0],SrtE.nil,own_nil _ _ _ _,HB1.out⟩
    ·rw [h1]
     have hR:RwE S Y1 b (evA vs) (cur.toList.drop ((LG+LT)*3)):=by
      unfold RwE
      rw [h3,←h7,List.take_append_drop]
     refine(sort_some (S:=S) (cap:=cap) (evA vs) HLL.out.1 (by have:=HLL.out.2;omega) (evA_ord vs) hR).mono ?_
     rintro e w' ⟨rfl,⟨C,p1,s1,hR2⟩,hc⟩
     have hl2:=p1.length_eq
     have hbw:w.heap.size≤b:=Nat.le_trans (Nat.le_trans HBX.out.size (Nat.le_refl _)) hge
     refine⟨rfl,C,p1,s1,⟨by rw [flatE_len],.inr ⟨b,cap,_,by rw [hl2,HLL.out.1],hbw,hR2,by rw [hl2,HLL.out.1];exact h4,h5,?_,?_⟩⟩,HB1.out.trans ⟨hc.os,hc.tape,hc.output,hc.size,fun j hj=>hc.block j (Nat.lt_of_lt_of_le hj HB1.out.size) (by omega)⟩⟩
     ·simp only [List.size_toArray,List.length_append,flatE_len,List.length_drop,hl2,HLL.out.1]
      have:cur.toList.length=cap*3:=by rw [Array.length_toList];exact h6
      have hc4:(LG+LT)*3≤cap*3:=Nat.mul_le_mul_right 3 h4
      omega
     ·dsimp only
      rw [List.take_append_of_le_length (by rw [flatE_len];exact Nat.le_refl _),List.take_of_length_le (by rw [flatE_len];exact Nat.le_refl _)]
   clear hr1 hb1
   go_wp2_with (go_at_call 150;refine HCL.out.mono ?_;rintro e Y2 ⟨rfl,C,p1,s1,hr2,hb2⟩)
   go_ret
   exact⟨v,C,rfl,p1,s1,hr2,hb2⟩
end Go.Proofs.YtceoibfliggalaaGreatDoor
namespace Go.Proofs.YtceoibfliggalaaGreatDoor
open Go.RowKit Wd Tr Cg Lg
theorem evL_le {f:Jv→Nat→List Ev} (hf:∀j i,(f j i).length≤1) (js:List Jv):∀m,m≤js.length→(evL f js m).length≤m
 | 0,_=>by simp [evL]
 | m+1,hm=>by
  rw [evL_succ f (List.getElem?_eq_getElem (show m<js.length by omega)),List.length_append]
  have h1:=evL_le hf js m (by omega)
  have h2:=hf js[m] m
  omega
theorem chg_bel {B mb:Nat} {w x:World} (h:Chg (fun i=>i=mb) w x) (hB:B≤w.heap.size) (hm:B≤mb):Below B w x:=⟨h.os,h.tape,h.output,h.size,fun k hk=>h.block k (by omega) (by omega)⟩
set_option maxHeartbeats 4000000 in
set_option maxRecDepth 20000 in
theorem needNodes_any {w:World} (c:Cf) (now:Int) (ao:Option Addr) (na ca:Nat) {jo:Option Addr} {ps:List Pj} (cj:Nat) (hd:Int) (n:Nat) (hn:c.nodes=(n:Int)) (h1:1≤n) (h2:n≤256) (hJ:PjsAt w jo ps) (hl:ps.length≤4096) (hsl:∀p∈ps,p.v.set.length≤140737488355328) (J:Jok (ps.map Pj.v)) (hrise:∀k,riseB c.nodes (-1) (setN (ps.map Pj.v) k)=true):
  Calls Tryz.prog 52 #[.agg (stL c now ao na ca jo ps.length cj hd)] w fun e w'=>e=asksE (apartB (ps.map Pj.v) (ps.map Pj.v).length) 176∧Below w.heap.size w w':=by
 have cQ:=need_any
 have HMA:Hid (∀x,Calls Tryz.prog 108 #[cfV c] x fun e w'=>∃mb,e=.returned (.pointer (some ⟨mb,0,none⟩))∧Nd.SetIn w' mb n (2^n - 1)∧Below x.heap.size x w'∧x.heap.size≤mb):=fun x=>machine_any c n hn h1 h2
 have HTO:Hid (∀x,Below w.heap.size w x→Calls Tryz.prog 109 #[.slice jo ps.length cj] x fun e w'=>∃(v:Value) (C:List Ev),e=.returned v∧C.Perm (evA (ps.map Pj.v))∧SrtE C∧w'.ownsRow x.heap.size 153 3 v C.length (flatE (slxOf ps) C)∧Below x.heap.size x w'):=fun x hx=>turnsOf_any (hJ.below hx) hl
 have HSE:Hid (∀x,Below w.heap.size w x→∀(k:Nat) (p:Pj),ps[k]?=some p→IntsAt x p.sa p.v.set∧p.v.set.length≤140737488355328∧∀ad,p.sa=some ad→0<p.v.set.length→ad.block<w.heap.size):=by
  intro x hx k p hp
  have hm:=List.mem_of_getElem? hp
  refine⟨(hJ.sets p hm).below hx,hsl p hm,fun ad e hq=>?_⟩
  obtain⟨g,o,hg,hc⟩:=hJ.sets p hm
  have e2:=hg hq
  rw [e]at e2
  cases e2
  exact World.block_lt_of_cell? w ⟨g,o+0,none⟩ (hc 0 _ (List.getElem?_eq_getElem hq))
 have HSX:Hid (∀(k:Nat) (q:Pj),ps[k]?=some q→(slxOf ps).so k=q.sa∧(slxOf ps).sl k=q.v.set.length∧(slxOf ps).sc k=q.sc):=fun k q h=>by simp [slxOf,h]
 have HEV:Hid (∀e∈evA (ps.map Pj.v),∃p,ps[e.jx]?=some p∧setN (ps.map Pj.v) e.jx=p.v.set):=by
  intro e he
  have:∃j,(ps.map Pj.v)[e.jx]?=some j:=by
   cases ht:e.tk with
   | true=>obtain⟨j,hj,_⟩:=(evA_take ht).1 he;exact⟨j,hj⟩
   | false=>obtain⟨j,hj,_⟩:=(evA_give ht).1 he;exact⟨j,hj⟩
  obtain⟨j,hj⟩:=this
  rw [List.getElem?_map]at hj
  cases hq:ps[e.jx]? with
  | none=>rw [hq]at hj;cases hj
  | some p=>
   refine⟨p,rfl,?_⟩
   exact setN_at (by rw [List.getElem?_map,hq];rfl)
 have HJ:Hid (Jok (ps.map Pj.v)∧∀k,riseB (n:Int) (-1) (setN (ps.map Pj.v) k)=true):=⟨J,fun k=>by rw [← hn];exact hrise k⟩
 have hev:(evA (ps.map Pj.v)).length≤100000:=by
  unfold evA
  rw [List.length_append]
  have b1:=evL_le (f:=evG) (fun j i=>by unfold evG;split<;>simp) (ps.map Pj.v) _ (Nat.le_refl _)
  have b2:=evL_le (f:=evT) (fun j i=>by unfold evT;split<;>simp) (ps.map Pj.v) _ (Nat.le_refl _)
  rw [List.length_map]at b1 b2 ⊢
  omega
 have HLE:Hid ((evA (ps.map Pj.v)).length≤100000):=hev
 obtain⟨AV,hAV⟩:∃AV,asksE (apartB (ps.map Pj.v) (ps.map Pj.v).length) 176=AV:=⟨_,rfl⟩
 have HAV:Hid (asksE (apartB (ps.map Pj.v) (ps.map Pj.v).length) 176=AV):=hAV
 rw [hAV]
 obtain⟨vs,hvs⟩:∃vs,ps.map Pj.v=vs:=⟨_,rfl⟩
 rw [hvs]at HTO HEV HJ HAV HLE
 obtain⟨S,hS⟩:∃S,slxOf ps=S:=⟨_,rfl⟩
 rw [hS]at HTO HSX
 obtain⟨N,hN⟩:∃N,ps.length=N:=⟨_,rfl⟩
 rw [hN]at HTO ⊢
 clear hN hS hvs hAV hev J hrise hJ hl hsl hn
 unfold stL
 have cM:=HMA.out
 unfold cfV at cM
 obtain⟨W,hW⟩:∃W,w.alloc (.cells #[.int .i64 c.nodes,.int .i64 c.queue,.int .i64 c.limit,.int .i64 c.age,.int .i64 c.fair,.int .i64 c.size,.int .i64 c.period,.int .i64 c.half,.int .i64 now,.slice ao na ca,.slice jo N cj,.int .i64 hd] 27)=W:=⟨_,rfl⟩
 have HBW:Hid (Below w.heap.size w W):=by show Below w.heap.size w W;rw [← hW];exact(Below.refl _ w).alloc (Nat.le_refl _) _
 have k0:W.cell? ⟨w.heap.size,0,none⟩=some (.int .i64 c.nodes):=by rw [← hW];exact cells_at (heap_alloc_new w _) rfl
 have k1:W.cell? ⟨w.heap.size,1,none⟩=some (.int .i64 c.queue):=by rw [← hW];exact cells_at (heap_alloc_new w _) rfl
 have k2:W.cell? ⟨w.heap.size,2,none⟩=some (.int .i64 c.limit):=by rw [← hW];exact cells_at (heap_alloc_new w _) rfl
 have k3:W.cell? ⟨w.heap.size,3,none⟩=some (.int .i64 c.age):=by rw [← hW];exact cells_at (heap_alloc_new w _) rfl
 have k4:W.cell? ⟨w.heap.size,4,none⟩=some (.int .i64 c.fair):=by rw [← hW];exact cells_at (heap_alloc_new w _) rfl
 have k5:W.cell? ⟨w.heap.size,5,none⟩=some (.int .i64 c.size):=by rw [← hW];exact cells_at (heap_alloc_new w _) rfl
 have k6:W.cell? ⟨w.heap.size,6,none⟩=some (.int .i64 c.period):=by rw [← hW];exact cells_at (heap_alloc_new w _) rfl
 have k7:W.cell? ⟨w.heap.size,7,none⟩=some (.int .i64 c.half):=by rw [← hW];exact cells_at (heap_alloc_new w _) rfl
 have k8:W.cell? ⟨w.heap.size,8,none⟩=some (.int .i64 now):=by rw [← hW];exact cells_at (heap_alloc_new w _) rfl
 have k9:W.cell? ⟨w.heap.size,9,none⟩=some (.slice ao na ca):=by rw [← hW];exact cells_at (heap_alloc_new w _) rfl
 have k10:W.cell? ⟨w.heap.size,10,none⟩=some (.slice jo N cj):=by rw [← hW];exact cells_at (heap_alloc_new w _) rfl
 have k11:W.cell? ⟨w.heap.size,11,none⟩=some (.int .i64 hd):=by rw [← hW];exact cells_at (heap_alloc_new w _) rfl
 go_enter Tryz.func52,Tryz.ntmps52
 go_upto_region 2 with(go_at_call 108;refine(cM _).mono ?_;rintro e Y1 ⟨mb,rfl,hs1,hb1,hmb⟩)
 try rw [hW]
 have p10:Y1.cell? ⟨w.heap.size,10,none⟩=some (.slice jo N cj):=by first | exact cellB hb1 k10 | (rw [hW]at hb1;exact cellB hb1 k10)
 have HB1:Hid (Below w.heap.size w Y1∧w.heap.size≤mb∧mb<Y1.heap.size):=by
  have hb1':Below W.heap.size W Y1:=by first | exact hb1 | (rw [hW]at hb1;exact hb1)
  have hmb':W.heap.size≤mb:=by first | exact hmb | (rw [hW]at hmb;exact hmb)
  exact⟨HBW.out.trans (hb1'.mono HBW.out.size),Nat.le_trans HBW.out.size hmb',hs1.lt⟩
 have HS1:Hid (Nd.SetIn Y1 mb n (2^n - 1)):=hs1
 clear hb1 hs1 hmb cM hW k0 k1 k2 k3 k4 k5 k6 k7 k8 k9 k10 k11
 have cT:=HTO.out Y1 HB1.out.1
 go_upto_region 3 with(go_at_call 109;refine cT.mono ?_;rintro e Y2 ⟨v,C,rfl,hperm,hsrt,hown,hb2⟩;obtain⟨go,cap,rfl,hcap,hnil,hsome⟩:=own_val hown)
 have HPC:Hid (C.Perm (evA vs)∧SrtE C∧C.length≤100000):=⟨hperm,hsrt,by rw [hperm.length_eq];exact HLE.out⟩
 have HSR:=(own_src hown).2
 have HCELL:Hid (∀(k:Nat) (e:Ev),C[k]?=some e→∃b,go=some ⟨b,0,none⟩∧Y1.heap.size≤b∧Y2.cell? ⟨b,k*3,none⟩=some (.int .i64 e.tm)∧Y2.cell? ⟨b,k*3+1,none⟩=some (.bool e.tk)∧Y2.cell? ⟨b,k*3+2,none⟩=some (.slice (S.so e.jx) (S.sl e.jx) (S.sc e.jx))):=by
  intro k e hk
  have hlen:=(List.getElem?_eq_some_iff.1 hk).1
  cases hgo:go with
  | none=>have:=(hnil hgo).1;omega
  | some ad=>
   obtain⟨b,rfl,hge,_⟩:=hsome ad hgo
   obtain⟨e0,e1,e2⟩:=flatE_at S C k e hk
   have f0:=HSR _ hgo _ _ e0
   have f1:=HSR _ hgo _ _ e1
   have f2:=HSR _ hgo _ _ e2
   rw [Addr.add_lit,Nat.zero_add]at f0 f1 f2
   exact⟨b,rfl,hge,f0,f1,f2⟩
 have HB2:Hid (Below w.heap.size w Y2∧Y1.heap.size≤Y2.heap.size):=⟨HB1.out.1.trans (hb2.mono HB1.out.1.size),hb2.size⟩
 have HS2:Hid (Nd.SetIn Y2 mb n (2^n - 1)):=HS1.out.below hb2
 obtain⟨L,hL⟩:∃L,C.length=L:=⟨_,rfl⟩
 rw [hL]at hcap HPC ⊢
 have HL:Hid (C.length=L):=hL
 have hL1:L≤100000:=HPC.out.2.2
 have hL2:(L:Int)≤100000:=by omega
 clear hperm hsrt hown hb2 hnil hsome HSR hL cT p10
 go_loopg [12] L (fun gk z wr=>∃(k F:Nat),k+gk=L∧z=.int .i64 (k:Int)∧Nd.SetIn wr mb n F∧Sw vs C n k F∧Chg (fun i=>i=mb) Y2 wr)
 case atStart=>exact⟨0,2^n - 1,by omega,rfl,HS2.out,Sw.start,Chg.refl _ _⟩
 case round=>
  obtain⟨k,F,hk,rfl,hset,hsw,hchg⟩:=hrel
  have HK:Hid (k+gk=L):=hk
  have HSW:Hid (Sw vs C n k F∧Nd.SetIn wr mb n F∧Chg (fun i=>i=mb) Y2 wr):=⟨hsw,hset,hchg⟩
  have HBR:Hid (Below w.heap.size w wr):=HB2.out.1.trans ((chg_bel hchg HB2.out.1.size HB1.out.2.1))
  by_cases hlt:k<L
  ·have hlt':(k:Int)<(L:Int):=by omega
   obtain⟨ev,hev⟩:∃ev,C[k]?=some ev:=⟨_,List.getElem?_eq_getElem (by rw [HL.out];exact hlt)⟩
   obtain⟨b,rfl,hge,y0,y1,y2⟩:=HCELL.out k ev hev
   have hbm:b≠mb:=by have:=HB1.out.2.2;omega
   obtain⟨p,hp,hsN⟩:=HEV.out ev (HPC.out.1.mem_iff.1 (List.mem_of_getElem? hev))
   obtain⟨sx1,sx2,sx3⟩:=HSX.out ev.jx p hp
   rw [sx1,sx2,sx3]at y2
   have z0:=hchg.cell y0 hbm
   have z1:=hchg.cell y1 hbm
   have z2:=hchg.cell y2 hbm
   have HEVK:Hid (C[k]?=some ev∧setN vs ev.jx=p.v.set∧riseB (n:Int) (-1) p.v.set=true):=⟨hev,hsN,by rw [← hsN];exact HJ.out.2 _⟩
   have HPS:Hid (∀x,Below w.heap.size w x→IntsAt x p.sa p.v.set∧p.v.set.length≤140737488355328∧∀ad,p.sa=some ad→0<p.v.set.length→ad.block<w.heap.size):=fun x hx=>HSE.out x hx ev.jx p hp
   clear y0 y1 y2 hp hsN sx1 sx2 sx3 hev hset hsw hchg
   obtain⟨⟨ac,nd,lm,sb,st,sr,en,xs⟩,sa,sc⟩:=p
   dsimp only at z2 HEVK HPS
   obtain⟨X,hX⟩:∃X,wr.alloc (.cells #[.int .i64 ev.tm,.bool ev.tk,.slice sa xs.length sc] 153)=X:=⟨_,rfl⟩
   have hbX:Below wr.heap.size wr X:=by rw [← hX];exact(Below.refl _ wr).alloc (Nat.le_refl _) _
   have n1:X.cell? ⟨wr.heap.size,1,none⟩=some (.bool ev.tk):=by rw [← hX];exact cells_at (heap_alloc_new wr _) rfl
   have n2:X.cell? ⟨wr.heap.size,2,none⟩=some (.slice sa xs.length sc):=by rw [← hX];exact cells_at (heap_alloc_new wr _) rfl
   have HBX:Hid (Below w.heap.size w X∧Nd.SetIn X mb n F):=⟨HBR.out.trans (hbX.mono HBR.out.size),HSW.out.2.1.below hbX⟩
   have HCX:Hid (Chg (fun i=>i=mb) Y2 X):=HSW.out.2.2.trans (Chg.of_below hbX _) (fun _ _ e=>e)
   obtain⟨hi1,hi2,hi3⟩:=HPS.out X HBX.out.1
   have hlow:∀ad,sa=some ad→0<xs.length→ad.block<mb:=fun ad e1 e2=>Nat.lt_of_lt_of_le (hi3 ad e1 e2) HB1.out.2.1
   have HCL:Hid (∀q,Calls Tryz.prog 97 #[.pointer (some ⟨mb,0,none⟩),.slice sa xs.length q] X fun e x'=>e=.returned (.int .i64 (Nd.turnE n F (Nd.nthI xs) xs.length true))∧Nd.SetIn x' mb n (Nd.turnF n F (Nd.nthI xs) xs.length true)∧Chg (fun i=>i=mb) X x'):=fun q=>claim_ints HBX.out.2 hi1 hlow hi2
   have HGV:Hid (∀q,Calls Tryz.prog 110 #[.pointer (some ⟨mb,0,none⟩),.slice sa xs.length q] X fun e x'=>e=.returned (.int .i64 (Nd.turnE n F (Nd.nthI xs) xs.length false))∧Nd.SetIn x' mb n (Nd.turnF n F (Nd.nthI xs) xs.length false)∧Chg (fun i=>i=mb) X x'):=fun q=>give_ints HBX.out.2 hi1 hlow hi2
   clear hi1 hi2 hi3 hlow hbX
   obtain⟨tm,tk,jx⟩:=ev
   dsimp only at z0 z1 n1 HEVK hX
   have HWK:Hid (wrap64 ((k:Int)+1)=((k+1:Nat):Int)):=by show wrap64 ((k:Int)+1)=((k+1:Nat):Int);unfold wrap64;omega
   go_upto_region 5 with fail
   try rw [hX]
   clear hX z0 z1 z2
   cases tk with
   | true=>
    have cC:=HCL.out sc
    by_cases hall:∀x∈xs,F.testBit x.toNat=true
    ·obtain ⟨q1,q2⟩:=Nd.claim_ok HEVK.out.2.2 hall
     have HNX:Hid (Sw vs C n (k+1) (Nd.turnF n F (Nd.nthI xs) xs.length true)):=Sw.take HJ.out.1 HPC.out.1 HPC.out.2.1 HSW.out.1 HEVK.out.1 rfl (HJ.out.2 _) (by rw [HEVK.out.2.1];exact hall) (fun m=>by rw [q2 m,HEVK.out.2.1])
     rw [q1]at cC
     have t:(false==true)=false:=rfl
     clear q1 q2 hall
     go_wp2_with (first | (go_at_call 97;refine cC.mono ?_;rintro e Z1 ⟨rfl,hs3,hc3⟩) | (go_at_call 103;refine(cQ _ _ _).mono ?_;rintro e w1 ⟨rfl,hw1⟩;obtain rfl:=hw1.symm;(first | rw [t] | skip);first | rw [asksE_yes] | rw [asksE_no]))
     have HS3:Hid (Nd.SetIn Z1 mb n (Nd.turnF n F (Nd.nthI xs) xs.length true)∧Chg (fun i=>i=mb) Y2 Z1):=⟨hs3,HCX.out.trans hc3 (fun _ _ e=>e)⟩
     clear hs3 hc3 cC
     go_roundg (L - (k+1))
     case measure=>have:=HK.out;omega
     case rel=>exact⟨k+1,_,by omega,by first | rw [HWK.out] | simp,HS3.out.1,HNX.out,HS3.out.2⟩
    ·obtain ⟨x,hx,hxf⟩:∃x,x∈xs∧F.testBit x.toNat=false:=by
      apply Classical.byContradiction
      intro hno
      refine hall (fun x hx=>?_)
      cases hb:F.testBit x.toNat with
      | true=>rfl
      | false=>exact absurd ⟨x,hx,hb⟩ hno
     have hap:=Sw.no HJ.out.1 HPC.out.1 HPC.out.2.1 HSW.out.1 HEVK.out.1 rfl (HJ.out.2 _) (x:=x) (by rw [HEVK.out.2.1];exact hx) hxf
     have HAA:Hid (AV=.panicked (thrown 176)):=by show AV=_;rw [← HAV.out,hap];rfl
     have hne:=Nd.claim_no (n:=n) (F:=F) (xs:=xs) (.inr ⟨x,hx,hxf⟩)
     obtain⟨E,hE⟩:∃E,Nd.turnE n F (Nd.nthI xs) xs.length true=E:=⟨_,rfl⟩
     rw [hE]at hne cC
     have t:(E==0)=false:=beq_eq_false_iff_ne.2 hne
     clear hE hne hap hall hx hxf
     go_wp2_with (first | (go_at_call 97;refine cC.mono ?_;rintro e Z1 ⟨rfl,hs3,hc3⟩) | (go_at_call 103;refine(cQ _ _ _).mono ?_;rintro e w1 ⟨rfl,hw1⟩;obtain rfl:=hw1.symm;(first | rw [t] | skip);first | rw [asksE_yes] | rw [asksE_no]))
     (try simp only [Exit.inBlock,Exit.then])
     exact⟨rfl,HAA.out.symm,HBX.out.1.trans (chg_bel hc3 HBX.out.1.size HB1.out.2.1)⟩
   | false=>
    have cC:=HGV.out sc
    have HNX:Hid (Sw vs C n (k+1) (Nd.turnF n F (Nd.nthI xs) xs.length false)):=Sw.give HJ.out.1 HPC.out.1 HPC.out.2.1 HSW.out.1 HEVK.out.1 rfl (HJ.out.2 _) (fun m=>by
     have h0:=Sw.taken HJ.out.1 HPC.out.1 HPC.out.2.1 HSW.out.1 HEVK.out.1 rfl (HJ.out.2 _)
     dsimp only at h0 ⊢
     rw [HEVK.out.2.1]at h0 ⊢
     exact Nd.give_ok HEVK.out.2.2 h0 m)
    go_wp2_with (go_at_call 110;refine cC.mono ?_;rintro e Z1 ⟨rfl,hs3,hc3⟩)
    have HS3:Hid (Nd.SetIn Z1 mb n (Nd.turnF n F (Nd.nthI xs) xs.length false)∧Chg (fun i=>i=mb) Y2 Z1):=⟨hs3,HCX.out.trans hc3 (fun _ _ e=>e)⟩
    clear hs3 hc3 cC
    go_roundg (L - (k+1))
    case measure=>have:=HK.out;omega
    case rel=>exact⟨k+1,_,by omega,by first | rw [HWK.out] | simp,HS3.out.1,HNX.out,HS3.out.2⟩
  ·obtain rfl:k=L:=by omega
   have hap:=Sw.done HJ.out.1 HPC.out.1 HPC.out.2.1 (by rw [HL.out];exact HSW.out.1)
   have HAA:Hid (AV=.returned (.tuple #[])):=by show AV=_;rw [← HAV.out,hap];rfl
   clear hap hset hsw hchg
   go_wp2
   go_end0
   exact⟨HAA.out.symm,HBR.out⟩
end Go.Proofs.YtceoibfliggalaaGreatDoor
namespace Go.Proofs.YtceoibfliggalaaGreatDoor
open Go.RowKit Wd Tr Cg Lg
def AChk:Prop:=∀(w:World) (c:Cf) (now:Int) (ao:Option Addr) (la:List Ac) (ca:Nat) (jo:Option Addr) (ps:List Pj) (cj:Nat) (hd:Int),StIn w ao la ca jo ps cj→wtN la ps≤281474976710656→
  Calls Tryz.prog 27 #[.agg (stL c now ao la.length ca jo ps.length cj hd)] w fun e w'=>e=.returned (.int .i64 (auditV (chkZ c) ⟨c,now,la,ps.map Pj.v,hd⟩))∧Below w.heap.size w w'
def cEx:Cf:=⟨4,8,10,1,0,0,100,100⟩
theorem ex_rng:Rng cEx:=by constructor<;>simp only [cEx]<;>omega
theorem ex_chk:chkZ cEx=0:=by
 unfold chkZ
 rw [if_neg (fun h=>h ex_rng),if_neg (by decide)]
 decide
end Go.Proofs.YtceoibfliggalaaGreatDoor

/-
  TEXTS: TcJ, TcK, TcR.
-/
import Derived.Test.YtceoibfliggalaaGreatDoorKr47
import Derived.Test.YtceoibfliggalaaGreatDoorKr43
import Derived.Test.YtceoibfliggalaaGreatDoorKr44
import Derived.Test.YtceoibfliggalaaGreatDoorKr48
import Derived.Test.YtceoibfliggalaaGreatDoorKr49
import Derived.Test.YtceoibfliggalaaGreatDoorKr20
namespace Go.Proofs.YtceoibfliggalaaGreatDoor
open Go Go.RowKit Wd Tr Cg Ld Lg
def zeroS:Sv:=⟨⟨0,0,0,0,0,0,0,0⟩,0,[],[],0⟩
abbrev zeroV:Array Value:= #[.int .i64 0,.int .i64 0,.int .i64 0,.int .i64 0,.int .i64 0,.int .i64 0,.int .i64 0,.int .i64 0,.int .i64 0,.slice none 0 0,.slice none 0 0,.int .i64 0]
def Gd (r:List UInt8) (code:Int) (t:Sv):Prop:=∃(c:Cf) (now hd:Int),(rd2 r).1= [c.nodes,c.queue,c.limit,c.age,c.fair,c.size,c.period,c.half,now,hd]∧((rd7 r=none∧code=190∧t=zeroS)∨(rd7 r≠none∧auditV (chkZ c) ⟨c,now,(rd4 r).1,(rd6 r).1,hd⟩=0∧code=0∧t=⟨c,now,(rd4 r).1,(rd6 r).1,hd⟩)∨(rd7 r≠none∧auditV (chkZ c) ⟨c,now,(rd4 r).1,(rd6 r).1,hd⟩≠0∧code=191∧t=zeroS))
theorem gd_any (r:List UInt8):∃code t,Gd r code t:=by
 obtain⟨c,now,hd,h⟩:=rd2_ten r
 by_cases h7:rd7 r=none
 ·exact ⟨_,_,c,now,hd,h,.inl ⟨h7,rfl,rfl⟩⟩
 ·by_cases ha:auditV (chkZ c) ⟨c,now,(rd4 r).1,(rd6 r).1,hd⟩=0
  ·exact ⟨_,_,c,now,hd,h,.inr (.inl ⟨h7,ha,rfl,rfl⟩)⟩
  ·exact ⟨_,_,c,now,hd,h,.inr (.inr ⟨h7,ha,rfl,rfl⟩)⟩
def StV (W:World) (t:Sv) (v:Array Value):Prop:=∃(ao:Option Addr) (ca:Nat) (jo:Option Addr) (cj:Nat) (qs:List Pj),v=stL t.cf t.now ao t.la.length ca jo qs.length cj t.hd∧qs.map Pj.v=t.js∧StIn W ao t.la ca jo qs cj
theorem StV.below {W W':World} {t:Sv} {v:Array Value} (h:StV W t v) (b:Below W.heap.size W W'):StV W' t v:=by
 obtain⟨ao,ca,jo,cj,qs,h1,h2,h3⟩:=h
 exact⟨ao,ca,jo,cj,qs,h1,h2,h3.below b⟩
theorem stin_nil (W:World):StIn W none [] 0 none [] 0:=⟨⟨0,0,fun h=>absurd h (Nat.lt_irrefl 0),fun k a h=>by simp at h⟩,fun n a h=>by simp at h,nofun,Nat.zero_le _,Nat.le_refl _,fun _=>⟨rfl,rfl⟩,⟨⟨0,0,fun h=>absurd h (Nat.lt_irrefl 0),fun k a h=>by simp at h⟩,nofun⟩,Nat.zero_le _,Nat.le_refl _,fun _=>⟨rfl,rfl⟩,nofun,nofun,nofun⟩
theorem stv_zero (W:World):StV W zeroS zeroV:=⟨none,0,none,0,[],rfl,rfl,stin_nil W⟩
def OutS (W:World) (B E:Nat) (t:Sv) (v:Array Value):Prop:=(t=zeroS∧v=zeroV)∨∃(gA gJ:Nat) (qs:List Pj),v=stL t.cf t.now (some ⟨gA,0,none⟩) t.la.length t.la.length (some ⟨gJ,0,none⟩) qs.length qs.length t.hd∧qs.map Pj.v=t.js∧RdS W B gA gJ t.la qs∧(stB t).length≤2147483647∧(∀a∈t.la,Word a.us)∧gA<E∧gJ<E∧∀q∈qs,∀b,q.sa=some ⟨b,0,none⟩→b<E
theorem OutS.keep {W W':World} {B E:Nat} {t:Sv} {v:Array Value} (h:OutS W B E t v) (hk:∀(b:Nat) (cs:Array Value) (tg:TypeId),B≤b→b<E→W.heap[b]?=some (.cells cs tg (0,0))→tg≠27→tg≠5→W'.heap[b]?=W.heap[b]?):OutS W' B E t v:=by
 rcases h with h | ⟨gA,gJ,qs,h1,h2,h3,h4,h5,h6,h7,h8⟩
 ·exact .inl h
 ·refine .inr ⟨gA,gJ,qs,h1,h2,⟨(hk gA _ _ h3.la_lo h6 h3.acs (by decide) (by decide)).trans h3.acs,(hk gJ _ _ h3.lj_lo h7 h3.jobs (by decide) (by decide)).trans h3.jobs,fun q hq=>?_,h3.la_lo,h3.lj_lo,h3.nx⟩,h4,h5,h6,h7,h8⟩
  obtain⟨g,e1,e2,e3,e4⟩:=h3.sets q hq
  exact⟨g,e1,e2,e3,(hk g _ _ e3 (h8 q hq g e1) e4 (by decide) (by decide)).trans e4⟩
theorem OutS.below {W W':World} {B E:Nat} {t:Sv} {v:Array Value} (h:OutS W B E t v) (b:Below W.heap.size W W'):OutS W' B E t v:=h.keep (fun k _ _ _ _ e _ _=>b.block k (Array.getElem?_eq_some_iff.1 e).1)
theorem st_js {t:Sv} {qs:List Pj} (h:qs.map Pj.v=t.js):(⟨t.cf,t.now,t.la,qs.map Pj.v,t.hd⟩:Sv)=t:=by rw [h]
theorem OutS.stv {W:World} {B E:Nat} {t:Sv} {v:Array Value} (h:OutS W B E t v):StV W t v:=by
 rcases h with⟨rfl,rfl⟩ | ⟨gA,gJ,qs,h1,h2,h3,h4,h5,_⟩
 ·exact stv_zero W
 ·exact ⟨_,_,_,_,qs,h1,h2,(st_read (c:=t.cf) (now:=t.now) (hd:=t.hd) h3 (by rw [st_js h2];omega) h5).1⟩
theorem get_out {w:World} {ao:Option Addr} {r:List UInt8} {c0:Nat} {code:Int} {t:Sv} (hG:Gd r code t) (hb:BytAt w ao r) (hc:r.length≤c0) (hn:ao=none→c0=0) (hl:r.length≤140737488355328):
  Calls Tryz.prog 17 #[.slice ao r.length c0] w fun e w'=>∃v,e=.returned (.tuple #[.agg v,.int .i64 code])∧OutS w' w.heap.size w'.heap.size t v∧Below w.heap.size w w':=by
 obtain⟨c,now,hd,hh,hG⟩:=hG
 refine(get_any (c0:=c0) hb hc hn hl).mono fun e w' hp=>?_
 obtain⟨hbl,hif⟩:=get_form hh hp
 rcases hG with⟨h7,rfl,rfl⟩ | ⟨h7,ha,rfl,rfl⟩ | ⟨h7,ha,rfl,rfl⟩
 ·rw [if_pos h7]at hif
  exact⟨_,hif,.inl ⟨rfl,rfl⟩,hbl⟩
 ·rw [if_neg h7,if_pos ha]at hif
  obtain⟨gA,gJ,qs,hqs,he,hrd⟩:=hif
  obtain⟨hk0,hok⟩:=aud_ok.1 ha
  refine⟨_,he,.inr ⟨gA,gJ,qs,rfl,hqs,hrd,st_small hk0 hok,show ∀a∈(rd4 r).1,Word a.us from acs_us _ _,(Array.getElem?_eq_some_iff.1 hrd.acs).1,(Array.getElem?_eq_some_iff.1 hrd.jobs).1,fun q hq b e=>?_⟩,hbl⟩
  obtain⟨g,e1,_,_,e4⟩:=hrd.sets q hq
  rw [e]at e1
  cases e1
  exact(Array.getElem?_eq_some_iff.1 e4).1
 ·rw [if_neg h7,if_neg ha]at hif
  exact⟨_,hif,.inl ⟨rfl,rfl⟩,hbl⟩
theorem fget_out {w:World} {ao:Option Addr} {r:List UInt8} {c0:Nat} {code:Int} {t:Sv} (hG:Gd r code t) (hb:BytAt w ao r) (hc:r.length≤c0) (hn:ao=none→c0=0) (hl:r.length≤140737488355328):
  Calls Tryz.prog 18 #[.slice ao r.length c0] w fun e w'=>∃v,e=.returned (.tuple #[.agg v,.int .i64 code])∧StV w' t v∧v.size=12∧Below w.heap.size w w':=by
 obtain⟨c,now,hd,hh,hG⟩:=hG
 refine(fget_any (c0:=c0) hh hb hc hn hl).mono fun e w' hp=>?_
 obtain⟨hif,hbl⟩:=hp
 rcases hG with⟨h7,rfl,rfl⟩ | ⟨h7,ha,rfl,rfl⟩ | ⟨h7,ha,rfl,rfl⟩
 ·rw [if_pos h7]at hif
  exact⟨_,hif,stv_zero _,rfl,hbl⟩
 ·rw [if_neg h7,if_pos ha]at hif
  obtain⟨ao,ca,jo,cj,qs,hqs,he,hst⟩:=hif
  exact⟨_,he,⟨ao,ca,jo,cj,qs,rfl,hqs,hst⟩,rfl,hbl⟩
 ·rw [if_neg h7,if_neg ha]at hif
  exact⟨_,hif,stv_zero _,rfl,hbl⟩
theorem same_out {W:World} {B E:Nat} {t:Sv} {v u:Array Value} (h:OutS W B E t v) (h':StV W t u):Calls Tryz.prog 19 #[.agg v,.agg u] W fun e w'=>e=.returned (.bool true)∧Below W.heap.size W w':=by
 obtain⟨ao,ca,jo,cj,qs,rfl,h2,h3⟩:=h.stv
 obtain⟨ao',ca',jo',cj',qs',rfl,h2',h3'⟩:=h'
 refine(sameState_b ca cj ca' cj' h3.acs h3'.acs h3.jobs h3'.jobs (by have:=h3.l48;omega) h3.l80 h3.sl).mono fun e w' hx=>?_
 exact Tells.is ⟨rfl,rfl,rfl,rfl,h2.trans h2'.symm⟩ hx
theorem spoils_out {W:World} {B E:Nat} {t:Sv} {v:Array Value} (h:OutS W B E t v):Calls Tryz.prog 20 #[.agg v] W fun e w'=>e=.returned (.bool true)∧Chg (fun b=>B≤b∧b<E∧∀(cs:Array Value) (f:Nat×Nat),W.heap[b]?≠some (.cells cs 27 f)) W w':=by
 rcases h with⟨rfl,rfl⟩ | ⟨gA,gJ,qs,rfl,h2,h3,h4,h5,h6,h7,h8⟩
 ·refine (spoils_any (qs:= []) (gA:=0) (gJ:=0) ⟨0,0,0,0,0,0,0,0⟩ 0 0 rfl (fun h=>absurd h (Nat.lt_irrefl 0)) (fun h=>absurd h (Nat.lt_irrefl 0)) ⟨fun h=>absurd h (Nat.lt_irrefl 0),fun h=>absurd h (Nat.lt_irrefl 0),fun j q h=>by simp at h⟩ List.Pairwise.nil nofun (Nat.zero_le _) (Nat.zero_le _) nofun).mono fun e w' ⟨he,hc⟩=>⟨he,hc.mono fun b _ hb=>?_⟩
  rcases hb with⟨h,_⟩ | ⟨h,_⟩ | ⟨q,hq,_⟩
  ·exact absurd h (Nat.lt_irrefl 0)
  ·exact absurd h (Nat.lt_irrefl 0)
  ·cases hq
 ·rw [← st_js h2,st_parts]at h4
  simp only at h4
  have k1:=acs_many t.la
  have k2:=jbs_many qs
  have ks:∀p∈qs,p.v.set.length≤setsN qs:=fun p hp=>sets_mem hp
  refine(spoils_any t.cf t.now t.hd rfl (fun _=>rfl) (fun _=>rfl) h3.sp h3.nx (fun q hq=>?_) (by omega) (by omega) (fun q hq=>by have:=ks q hq;omega)).mono fun e w' ⟨he,hc⟩=>⟨he,hc.mono fun b _ hb=>?_⟩
  ·obtain ⟨_,_,e2,_⟩:=h3.sets q hq
   exact e2
  ·rcases hb with⟨_,rfl⟩ | ⟨_,rfl⟩ | ⟨q,hq,e⟩
   ·exact ⟨h3.la_lo,h6,fun cs f e=>by rw [h3.acs]at e;cases e⟩
   ·exact ⟨h3.lj_lo,h7,fun cs f e=>by rw [h3.jobs]at e;cases e⟩
   ·obtain ⟨g,e1,_,e3,e4⟩:=h3.sets q hq
    rw [e]at e1
    cases e1
    exact⟨e3,h8 q hq b e,fun cs f e=>by rw [e4]at e;cases e⟩
end Go.Proofs.YtceoibfliggalaaGreatDoor
namespace Go.Proofs.YtceoibfliggalaaGreatDoor
open Go Go.RowKit Wd Tr Cg Ld Lg
structure Oth (W W':World):Prop where
 h:∀(b:Nat) (cs:Array Value) (tg:TypeId),W.heap[b]?=some (.cells cs tg (0,0))→tg≠27→tg≠5→W'.heap[b]?=W.heap[b]?
 s:W.heap.size≤W'.heap.size
theorem Oth.grown {W V:World} {B sz n:Nat} {v:Value} {xs:List Value} (hv:W.ownsRow B 27 sz v n xs) (g:W.grownBy V v.ownBlock):Oth W V:=⟨fun k cs' t' h h1 h2=>g.block k (Array.getElem?_eq_some_iff.1 h).1 (fun e=>by
 rcases hv.2 with⟨rfl,_⟩ | ⟨q,cap,cur,rfl,_,hc,_⟩
 ·cases e
 ·cases e
  rw [hc]at h
  cases h
  exact h1 rfl),g.size⟩
theorem OutS.oth {W V:World} {B E:Nat} {t:Sv} {v:Array Value} (h:OutS W B E t v) (o:Oth W V):OutS V B E t v:=h.keep (fun b cs tg _ _ e h1 h2=>o.h b cs tg e h1 h2)
def flatV (vs:List (Array Value)):List Value:=vs.flatMap Array.toList
structure Outs (B0:Nat) (W:World) (po:Value) (n:Nat) (tt:Nat→Sv) (fr:Nat):Prop where
 ex:∃(vs:List (Array Value)) (Bs Es:Nat→Nat),vs.length=n∧W.ownsRow B0 27 12 po n (flatV vs)∧(∀v∈vs,v.size=12)∧(∀j v,fr≤j→vs[j]?=some v→OutS W (Bs j) (Es j) (tt j) v)∧(∀i j,i<j→j<n→Es i≤Bs j)∧∀j,j<n→B0≤Bs j∧Es j≤W.heap.size
theorem flatV_app (a b:List (Array Value)):flatV (a++b)=flatV a++flatV b:=by unfold flatV;rw [List.flatMap_append]
theorem flatV_at:∀(vs:List (Array Value)),(∀v∈vs,v.size=12)→∀(j:Nat) (v:Array Value),vs[j]?=some v→∀c u,v[c]?=some u→(flatV vs)[j*12+c]?=some u
 | [],_,j,v,h,_,_,_=>by simp at h
 | x::vs,hv,j,v,h,c,u,hu=>by
  have hx:x.toList.length=12:=by rw [Array.length_toList];exact hv x List.mem_cons_self
  show (x.toList++flatV vs)[j*12+c]?=_
  cases j with
  | zero=>
   simp only [List.getElem?_cons_zero,Option.some.injEq]at h
   subst h
   have hc:=(Array.getElem?_eq_some_iff.1 hu).1
   rw [Nat.zero_mul,Nat.zero_add,List.getElem?_append_left (by rw [Array.length_toList];exact hc)]
   simpa using hu
  | succ j=>
   rw [List.getElem?_append_right (by rw [hx];omega),hx,show (j+1)*12+c - 12=j*12+c by omega]
   exact flatV_at vs (fun v hv'=>hv v (List.mem_cons_of_mem _ hv')) j v (by simpa using h) c u hu
theorem OutS.form {W:World} {B E:Nat} {t:Sv} {v:Array Value} (h:OutS W B E t v):∃(c:Cf) (now hd:Int) (ao:Option Addr) (na:Nat) (jo:Option Addr) (m:Nat),v= #[.int .i64 c.nodes,.int .i64 c.queue,.int .i64 c.limit,.int .i64 c.age,.int .i64 c.fair,.int .i64 c.size,.int .i64 c.period,.int .i64 c.half,.int .i64 now,.slice ao na na,.slice jo m m,.int .i64 hd]:=by
 rcases h with⟨_,rfl⟩ | ⟨gA,gJ,qs,rfl,_⟩
 ·exact ⟨⟨0,0,0,0,0,0,0,0⟩,0,0,none,0,none,0,rfl⟩
 ·exact ⟨_,_,_,_,_,_,_,rfl⟩
theorem StV.form {W:World} {t:Sv} {v:Array Value} (h:StV W t v):∃(c:Cf) (now hd:Int) (ao:Option Addr) (na ca:Nat) (jo:Option Addr) (m cj:Nat),v= #[.int .i64 c.nodes,.int .i64 c.queue,.int .i64 c.limit,.int .i64 c.age,.int .i64 c.fair,.int .i64 c.size,.int .i64 c.period,.int .i64 c.half,.int .i64 now,.slice ao na ca,.slice jo m cj,.int .i64 hd]:=by
 obtain⟨_,_,_,_,_,rfl,_⟩:=h
 exact⟨_,_,_,_,_,_,_,_,_,rfl⟩
theorem Tryz.infS27:(Tryz.prog.info? 27).map (fun i=>(i.zero,i.size,i.bytes))=some (some (.agg zeroV),12,128):=by kernel_rfl
structure Was (w:World) (v:Value) (t:Sv):Prop where
 ex:∃(ao:Option Addr) (r:List UInt8) (c:Nat) (code:Int),v=.slice ao r.length c∧BytAt w ao r∧r.length≤c∧(ao=none→c=0)∧r.length≤140737488351232∧Gd r code t
set_option maxRecDepth 20000 in
set_option maxHeartbeats 8000000 in
theorem reads_walk {w:World} (hT:Tab w) {b0 b1:Value} {s0 s1:Sv} (h0:Was w b0 s0) (h1:Was w b1 s1):
  Calls Tryz.prog 4 #[b0,b1] w fun e w'=>e=.returned (.bool true)∧Below w.heap.size w w':=by
 have HT:Hid (Tab w):=hT
 obtain⟨tt,htt⟩:∃tt:Nat→Sv,tt=fun k=>if k=1 then s1 else s0:=⟨_,rfl⟩
 have HW:Hid (∀k:Nat,Was w (if k=1 then b1 else b0) (tt k)):=fun k=>by
  rw [htt]
  by_cases e:k=1
  ·simp only [if_pos e];exact h1
  ·simp only [if_neg e];exact h0
 obtain⟨iS,hiS,hzS0,hzS1,hzS2⟩:=info_parts Tryz.infS27
 clear h0 h1 htt hT
 go_enter Tryz.func4,Tryz.ntmps4
 go_upto_region 3 with(go_at_call 9;refine(sshown_any HT.out).mono ?_;rintro e w1 ⟨rfl,b1⟩;have HB1:Hid (Below w.heap.size w w1):=b1;clear b1)
 go_upto_region 4 with fail
 obtain⟨W2,hW2⟩:∃W2,w1.alloc (.cells #[] 27)=W2:=⟨_,rfl⟩
 have b2:Below w1.heap.size w1 W2:=by rw [← hW2];exact(Below.refl _ _).alloc (Nat.le_refl _) _
 have HR0:Hid (W2.ownsRow w1.heap.size 27 12 (.slice (some ⟨w1.heap.size,0,none⟩) 0 0) 0 []):=by show World.ownsRow _ _ _ _ _ _ _;rw [← hW2];exact World.ownsRow_made w1 #[] 0 (Nat.le_refl _) (by decide) rfl
 have HB2:Hid (Below w.heap.size w W2):=HB1.out.trans (b2.mono HB1.out.size)
 have HO2:Hid (Outs w.heap.size W2 (.slice (some ⟨w1.heap.size,0,none⟩) 0 0) 0 tt 0):=⟨[],fun _=>0,fun _=>0,rfl,own_base HR0.out HB1.out.size,nofun,fun j v _ h=>by simp at h,fun i j _ h=>absurd h (Nat.not_lt_zero _),fun j h=>absurd h (Nat.not_lt_zero _)⟩
 rw [hW2]
 clear hW2 b2 HR0
 go_upto_block 0 with fail
 go_cut [5] (fun po y=>Outs w.heap.size y po 3 tt 0∧Below w.heap.size w y)
 case first=>
  go_wp2_with fail
  go_loopg [5,6] 3 (fun gk po pk wr=>∃k:Nat,k+gk=3∧pk=.int .i64 k∧Outs w.heap.size wr po k tt 0∧Below w.heap.size w wr)
  case atStart=>exact⟨0,by omega,rfl,HO2.out,HB2.out⟩
  case round=>
   obtain⟨k,hk,rfl,hou,hbl⟩:=hrel
   by_cases hlt:k<3
   ·have hlt':(k:Int)<3:=by omega
    have HOU:Hid _:=hou
    have HBL:Hid _:=hbl
    clear hou hbl HO2 HB2
    go_upto_if 28 with fail
    go_cut [7] (fun v y=>v=(if k=1 then b1 else b0)∧y=wr)
    case first=>
     by_cases hk1:k=1
     ·have hk1':(k:Int)=1:=by omega
      have HE:Hid ((if k=1 then b1 else b0)=b1):=if_pos hk1
      have hq:((k:Int)==1)=true:=by simp [hk1']
      subst hk1
      go_wp2
      go_meet
      exact⟨HE.out.symm,rfl⟩
     ·have hk1':¬(k:Int)=1:=by omega
      have HE:Hid ((if k=1 then b1 else b0)=b0):=if_neg hk1
      have hq:((k:Int)==1)=false:=by simp [hk1']
      go_wp2
      go_meet
      exact⟨HE.out.symm,rfl⟩
    case rest=>
    obtain⟨hv7,hwc⟩:=hcut
    rw [hwc]
    obtain⟨ao,r,c,code,hv,hbt,hc,hn,hl,hG⟩:=(HW.out k).ex
    have e7:=hv7.trans hv
    subst e7
    clear hv7 hwc hv
    have HBT:Hid (∀x,Below w.heap.size w x→BytAt x ao r):=fun x b=>hbt.below b
    have hlb:=lendBytes_any (w:=wr) (cap:=c) (HBT.out wr HBL.out) (fun e=>by have:=hn e;omega) hl
    have HGT:Hid (∀(x:World) (g cap:Nat),BytAt x (some ⟨g,0,none⟩) r→r.length≤cap→_):=fun x g cap h1 h2=>get_out (w:=x) (c0:=cap) hG h1 h2 (fun e=>by cases e) (by omega)
    have HFG:Hid (∀(x:World),Below w.heap.size w x→_):=fun x b=>fget_out (w:=x) (c0:=c) hG (HBT.out x b) hc hn (by omega)
    have HSB:Hid (∀(x:World) (g cap:Nat),Below w.heap.size w x→BytAt x (some ⟨g,0,none⟩) r→Calls Tryz.prog 13 #[.slice (some ⟨g,0,none⟩) r.length cap,.slice ao r.length c] x (Tells x True)):=fun x g cap b h=>by
     have:=sameBytes_b (w:=x) cap c h (HBT.out x b) (by omega)
     rwa [show (r=r)=True from eq_self _]at this
    have HGD:Hid _:=hG
    obtain⟨n,hnn⟩:∃n,r.length=n:=⟨_,rfl⟩
    have HNN:Hid (r.length=n):=hnn
    rw [hnn]at hlb HGT HFG HSB hl hc ⊢
    clear hbt hG hn hnn
    go_upto_region 11 with(go_at_call 16;refine(show Calls _ _ _ _ _ from hlb).mono ?_;rintro e w3 ⟨v8,rfl,ho,b3⟩;have HO3:Hid _:=ho;have HB3:Hid _:=b3;clear ho b3)
    have ho3:=HO3.out
    rw [← HNN.out]at ho3
    obtain⟨g,cap,hv8,hcap,_⟩:=lent_cut ho3
    rw [HNN.out]at hv8 hcap ho3
    subst hv8
    have hgl:wr.heap.size≤g∧g<w3.heap.size:=World.ownsRow.lt ho3 g rfl
    have hcel:∀j u,(u8s (r++ [165,165]))[j]?=some u→w3.cell? ⟨g,j,none⟩=some u:=fun j u hu=>by
     have:=World.ownsRow.cells ho3 (g:=g) rfl j u hu
     rwa [Addr.add_lit,Nat.zero_add]at this
    have HBR:Hid (∀x,Below w3.heap.size w3 x→BytAt x (some ⟨g,0,none⟩) r∧x.cell? ⟨g,n,none⟩=some (.int .u8 165)∧x.cell? ⟨g,n+1,none⟩=some (.int .u8 165)):=fun x b=>by
     refine⟨⟨g,0,fun _=>rfl,fun j u hu=>?_⟩,cellB b (hcel n _ ?_),cellB b (hcel (n+1) _ ?_)⟩
     ·rw [Nat.zero_add]
      exact cellB b (hcel j _ (by rw [u8s_app,List.getElem?_append_left (by rw [u8s_len];have:=(List.getElem?_eq_some_iff.1 hu).1;omega)];unfold u8s;rw [List.getElem?_map,hu];rfl))
     ·rw [u8s_app,List.getElem?_append_right (by rw [u8s_len,HNN.out];omega),u8s_len,HNN.out,show n - n*1=0 by omega];rfl
     ·rw [u8s_app,List.getElem?_append_right (by rw [u8s_len,HNN.out];omega),u8s_len,HNN.out,show n+1 - n*1=1 by omega];rfl
    have HXB:Hid (∃cs:Array Value,w3.heap[g]?=some (.cells cs 5 (0,0))∧cs.size=cap):=by
     rcases ho3.2 with⟨e,_⟩ | ⟨g',cap',cur,e,_,h3,_,_,h6,_⟩
     ·cases e
     ·cases e
      exact⟨cur,h3,by omega⟩
    have HGL:Hid _:=hgl
    have hg3:=HGT.out w3 g cap (HBR.out w3 (Below.refl _ _)).1 (by omega)
    clear ho3 hgl hcel hlb HO3
    have hcn:(n:Int)≤cap:=by omega
    have hn0:(0:Int)≤n:=by omega
    go_upto_region 13 with(go_at_call 17;refine(show Calls _ _ _ _ _ from hg3).mono ?_;rintro e w4 ⟨v,rfl,hO4,b4⟩;obtain⟨c1,now1,hd1,a1,n1,j1,m1,rfl⟩:=hO4.form;have HO4:Hid _:=hO4;have HB4:Hid _:=b4;clear hO4 b4)
    obtain⟨W5,hW5⟩:∃W5,w4.alloc (.cells #[.int .i64 c1.nodes,.int .i64 c1.queue,.int .i64 c1.limit,.int .i64 c1.age,.int .i64 c1.fair,.int .i64 c1.size,.int .i64 c1.period,.int .i64 c1.half,.int .i64 now1,.slice a1 n1 n1,.slice j1 m1 m1,.int .i64 hd1] 27)=W5:=⟨_,rfl⟩
    have b5:Below w4.heap.size w4 W5:=by rw [← hW5];exact(Below.refl _ _).alloc (Nat.le_refl _) _
    have hA5:W5.heap[w4.heap.size]?=some (.cells #[.int .i64 c1.nodes,.int .i64 c1.queue,.int .i64 c1.limit,.int .i64 c1.age,.int .i64 c1.fair,.int .i64 c1.size,.int .i64 c1.period,.int .i64 c1.half,.int .i64 now1,.slice a1 n1 n1,.slice j1 m1 m1,.int .i64 hd1] 27 (0,0)):=by rw [← hW5];exact heap_alloc_new w4 _
    have HX3:Hid (Below wr.heap.size wr w3):=HB3.out
    have HX5:Hid (Below wr.heap.size wr W5):=(HX3.out.trans (HB4.out.mono HX3.out.size)).trans (b5.mono (Nat.le_trans HX3.out.size HB4.out.size))
    have hY5:Below w.heap.size w W5:=HBL.out.trans (HX5.out.mono HBL.out.size)
    have hz34:=HB4.out.size
    have hz5:=b5.size
    have HO5:Hid (OutS W5 w3.heap.size w4.heap.size (tt k) #[.int .i64 c1.nodes,.int .i64 c1.queue,.int .i64 c1.limit,.int .i64 c1.age,.int .i64 c1.fair,.int .i64 c1.size,.int .i64 c1.period,.int .i64 c1.half,.int .i64 now1,.slice a1 n1 n1,.slice j1 m1 m1,.int .i64 hd1]):=OutS.below HO4.out b5
    have hBR5:Hid (Below w3.heap.size w3 W5):=HB4.out.trans (b5.mono HB4.out.size)
    have hfg:=HFG.out W5 hY5
    have HA5:Hid _:=hA5
    rw [hW5]
    clear hW5 b5 hA5 hY5 HO4 hg3
    obtain⟨pA,hpA⟩:∃pA,w4.heap.size=pA:=⟨_,rfl⟩
    rw [hpA]at HA5 HO5 hz34 hz5 ⊢
    have HA5':Hid (W5.heap[pA]?=some (.cells #[.int .i64 c1.nodes,.int .i64 c1.queue,.int .i64 c1.limit,.int .i64 c1.age,.int .i64 c1.fair,.int .i64 c1.size,.int .i64 c1.period,.int .i64 c1.half,.int .i64 now1,.slice a1 n1 n1,.slice j1 m1 m1,.int .i64 hd1] 27 (0,0))):=HA5.out
    clear HA5 hpA
    go_upto_region 14 with(go_at_call 18;refine(show Calls _ _ _ _ _ from hfg).mono ?_;rintro e w6 ⟨u,rfl,hS6,_,b6⟩;obtain⟨c2,now2,hd2,a2,n2,x2,j2,m2,y2,rfl⟩:=hS6.form;have HS6:Hid _:=hS6;have HB6:Hid _:=b6;clear hS6 b6)
    obtain⟨W7,hW7⟩:∃W7,w6.alloc (.cells #[.int .i64 c2.nodes,.int .i64 c2.queue,.int .i64 c2.limit,.int .i64 c2.age,.int .i64 c2.fair,.int .i64 c2.size,.int .i64 c2.period,.int .i64 c2.half,.int .i64 now2,.slice a2 n2 x2,.slice j2 m2 y2,.int .i64 hd2] 27)=W7:=⟨_,rfl⟩
    have b7:Below w6.heap.size w6 W7:=by rw [← hW7];exact(Below.refl _ _).alloc (Nat.le_refl _) _
    have hB7:W7.heap[w6.heap.size]?=some (.cells #[.int .i64 c2.nodes,.int .i64 c2.queue,.int .i64 c2.limit,.int .i64 c2.age,.int .i64 c2.fair,.int .i64 c2.size,.int .i64 c2.period,.int .i64 c2.half,.int .i64 now2,.slice a2 n2 x2,.slice j2 m2 y2,.int .i64 hd2] 27 (0,0)):=by rw [← hW7];exact heap_alloc_new w6 _
    have hb57:Below W5.heap.size W5 W7:=HB6.out.trans (b7.mono HB6.out.size)
    have hA7:W7.heap[pA]?=some (.cells #[.int .i64 c1.nodes,.int .i64 c1.queue,.int .i64 c1.limit,.int .i64 c1.age,.int .i64 c1.fair,.int .i64 c1.size,.int .i64 c1.period,.int .i64 c1.half,.int .i64 now1,.slice a1 n1 n1,.slice j1 m1 m1,.int .i64 hd1] 27 (0,0)):=(hb57.block pA (Array.getElem?_eq_some_iff.1 HA5'.out).1).trans HA5'.out
    have HX7:Hid (Below wr.heap.size wr W7):=HX5.out.trans (hb57.mono HX5.out.size)
    have HO7:Hid (OutS W7 w3.heap.size pA (tt k) #[.int .i64 c1.nodes,.int .i64 c1.queue,.int .i64 c1.limit,.int .i64 c1.age,.int .i64 c1.fair,.int .i64 c1.size,.int .i64 c1.period,.int .i64 c1.half,.int .i64 now1,.slice a1 n1 n1,.slice j1 m1 m1,.int .i64 hd1]):=OutS.below HO5.out hb57
    have hsm:=same_out HO7.out (StV.below HS6.out b7)
    have HBR7:Hid (Below w3.heap.size w3 W7):=hBR5.out.trans (hb57.mono hBR5.out.size)
    have HA7:Hid _:=hA7
    rw [hW7]
    obtain⟨pB,hpB⟩:∃pB,w6.heap.size=pB:=⟨_,rfl⟩
    rw [hpB]at hB7 ⊢
    have HB7:Hid _:=hB7
    have p0:W7.cell? ⟨pA,0,none⟩=some (.int .i64 c1.nodes):=cells_at HA7.out rfl
    have p1:W7.cell? ⟨pA,1,none⟩=some (.int .i64 c1.queue):=cells_at HA7.out rfl
    have p2:W7.cell? ⟨pA,2,none⟩=some (.int .i64 c1.limit):=cells_at HA7.out rfl
    have p3:W7.cell? ⟨pA,3,none⟩=some (.int .i64 c1.age):=cells_at HA7.out rfl
    have p4:W7.cell? ⟨pA,4,none⟩=some (.int .i64 c1.fair):=cells_at HA7.out rfl
    have p5:W7.cell? ⟨pA,5,none⟩=some (.int .i64 c1.size):=cells_at HA7.out rfl
    have p6:W7.cell? ⟨pA,6,none⟩=some (.int .i64 c1.period):=cells_at HA7.out rfl
    have p7:W7.cell? ⟨pA,7,none⟩=some (.int .i64 c1.half):=cells_at HA7.out rfl
    have p8:W7.cell? ⟨pA,8,none⟩=some (.int .i64 now1):=cells_at HA7.out rfl
    have p9:W7.cell? ⟨pA,9,none⟩=some (.slice a1 n1 n1):=cells_at HA7.out rfl
    have p10:W7.cell? ⟨pA,10,none⟩=some (.slice j1 m1 m1):=cells_at HA7.out rfl
    have p11:W7.cell? ⟨pA,11,none⟩=some (.int .i64 hd1):=cells_at HA7.out rfl
    have q0:W7.cell? ⟨pB,0,none⟩=some (.int .i64 c2.nodes):=cells_at HB7.out rfl
    have q1:W7.cell? ⟨pB,1,none⟩=some (.int .i64 c2.queue):=cells_at HB7.out rfl
    have q2:W7.cell? ⟨pB,2,none⟩=some (.int .i64 c2.limit):=cells_at HB7.out rfl
    have q3:W7.cell? ⟨pB,3,none⟩=some (.int .i64 c2.age):=cells_at HB7.out rfl
    have q4:W7.cell? ⟨pB,4,none⟩=some (.int .i64 c2.fair):=cells_at HB7.out rfl
    have q5:W7.cell? ⟨pB,5,none⟩=some (.int .i64 c2.size):=cells_at HB7.out rfl
    have q6:W7.cell? ⟨pB,6,none⟩=some (.int .i64 c2.period):=cells_at HB7.out rfl
    have q7:W7.cell? ⟨pB,7,none⟩=some (.int .i64 c2.half):=cells_at HB7.out rfl
    have q8:W7.cell? ⟨pB,8,none⟩=some (.int .i64 now2):=cells_at HB7.out rfl
    have q9:W7.cell? ⟨pB,9,none⟩=some (.slice a2 n2 x2):=cells_at HB7.out rfl
    have q10:W7.cell? ⟨pB,10,none⟩=some (.slice j2 m2 y2):=cells_at HB7.out rfl
    have q11:W7.cell? ⟨pB,11,none⟩=some (.int .i64 hd2):=cells_at HB7.out rfl
    clear hW7 b7 hB7 hb57 hA7 HO5 HS6 HB6 hfg hpB HX5 hBR5 HA5'
    go_upto_block 2 with(first
     | (go_at_call 19;refine(show Calls _ _ _ _ _ from hsm).mono ?_;rintro e w8 ⟨rfl,b8⟩;have HB8:Hid _:=b8;have hsb:=HSB.out w8 g cap ((HBL.out.trans (HX7.out.mono HBL.out.size)).trans (b8.mono (Nat.le_trans HBL.out.size HX7.out.size))) (HBR.out w8 (HBR7.out.trans (b8.mono HBR7.out.size))).1;clear b8)
     | (go_at_call 13;refine(show Calls _ _ _ _ _ from hsb).mono ?_;intro e w9 hx;obtain⟨rfl,b9⟩:=Tells.is trivial hx;have HB9:Hid (Below W7.heap.size W7 w9):=HB8.out.trans (b9.mono HB8.out.size);obtain⟨_,g165,g166⟩:=HBR.out w9 (HBR7.out.trans (HB9.out.mono HBR7.out.size));clear b9 hx))
    clear p0 p1 p2 p3 p4 p5 p6 p7 p8 p9 p10 p11 q0 q1 q2 q3 q4 q5 q6 q7 q8 q9 q10 q11 hsm hsb g165 g166 HB8
    have HX9:Hid (Below wr.heap.size wr w9):=HX7.out.trans (HB9.out.mono HX7.out.size)
    have HO9:Hid (OutS w9 w3.heap.size pA (tt k) #[.int .i64 c1.nodes,.int .i64 c1.queue,.int .i64 c1.limit,.int .i64 c1.age,.int .i64 c1.fair,.int .i64 c1.size,.int .i64 c1.period,.int .i64 c1.half,.int .i64 now1,.slice a1 n1 n1,.slice j1 m1 m1,.int .i64 hd1]):=OutS.below HO7.out HB9.out
    have HA9:Hid (w9.heap[pA]?=some (.cells #[.int .i64 c1.nodes,.int .i64 c1.queue,.int .i64 c1.limit,.int .i64 c1.age,.int .i64 c1.fair,.int .i64 c1.size,.int .i64 c1.period,.int .i64 c1.half,.int .i64 now1,.slice a1 n1 n1,.slice j1 m1 m1,.int .i64 hd1] 27 (0,0))):=(HB9.out.block pA (Array.getElem?_eq_some_iff.1 HA7.out).1).trans HA7.out
    have HG9:Hid (∃cs:Array Value,w9.heap[g]?=some (.cells cs 5 (0,0))∧cs.size=cap):=by
     obtain⟨cs,h1,h2⟩:=HXB.out
     exact⟨cs,((HBR7.out.trans (HB9.out.mono HBR7.out.size)).block g HGL.out.2).trans h1,h2⟩
    clear HX7 HO7 HA7 HB7 HBR HBR7 HXB HB9
    go_cut [] (fun y=>Chg (fun b=>b=g) w9 y)
    case first=>
     go_wp2_with fail
     go_loopg [14] (n+2) (fun gk pk wv=>∃i:Nat,i+gk=n+2∧pk=.int .i64 i∧(∃cs:Array Value,wv.heap[g]?=some (.cells cs 5 (0,0))∧cs.size=cap)∧Chg (fun b=>b=g) w9 wv)
     case atStart=>exact⟨0,by omega,rfl,HG9.out,Chg.refl _ _⟩
     case round=>
      obtain⟨i,hi,rfl,⟨cs,hcs,hcz⟩,hch⟩:=hrel
      by_cases hlt2:i<n+2
      ·have hlt2':(i:Int)<((n+2:Nat):Int):=by omega
       have hlt3:(i:Int)<(n:Int)+2:=by omega
       have hi0:(0:Int)≤i:=by omega
       have cv:wr.cell? ⟨g,i,none⟩=some (cs[i]'(by omega)):=cells_at hcs (Array.getElem?_eq_getElem (by omega))
       have fv:wr.frozen? ⟨g,i,none⟩=false:=frozen_at hcs
       have hst:=heap_setCell_same wr g i _ _ (.int .u8 90) hcs
       have HST:Hid (∃cs:Array Value,(wr.setCell ⟨g,i,none⟩ (.int .u8 90)).heap[g]?=some (.cells cs 5 (0,0))∧cs.size=cap):=⟨_,hst,by rw [Array.size_setIfInBounds];exact hcz⟩
       have HCH:Hid (Chg (fun b=>b=g) w9 (wr.setCell ⟨g,i,none⟩ (.int .u8 90))):=⟨hch.os,hch.tape,hch.output,Nat.le_trans hch.size (by simp [World.setCell]),fun b hb hne=>(Below.heap_setCell _ _ _ _ (show b≠g from hne)).trans (hch.block b hb hne)⟩
       generalize cs[i]'(by omega)=cc at cv
       clear hst hcs hcz hch
       go_wp2
       go_roundg (n+2 - (i+1))
       case measure=>omega
       case rel=>exact⟨i+1,by omega,by go_num,HST.out,HCH.out⟩
      ·have hlt2':¬(i:Int)<((n+2:Nat):Int):=by omega
       have hlt3:¬(i:Int)<(n:Int)+2:=by omega
       have HCH:Hid _:=hch
       clear hcs hcz hch
       go_wp2
       go_meet
       exact HCH.out
    case rest=>
    have hch:=hcut
    obtain⟨V,hV⟩:∃V:World,V=wc:=⟨_,rfl⟩
    rw [← hV]at hch
    rw [← hV]
    have hsz9:=HX9.out.size
    have HXV:Hid (Below wr.heap.size wr V):=⟨hch.os.trans HX9.out.os,hch.tape.trans HX9.out.tape,hch.output.trans HX9.out.output,Nat.le_trans hsz9 hch.size,fun b hb=>(hch.block b (by omega) (by have:=HGL.out.1;omega)).trans (HX9.out.block b hb)⟩
    have hOV:OutS V w3.heap.size pA (tt k) #[.int .i64 c1.nodes,.int .i64 c1.queue,.int .i64 c1.limit,.int .i64 c1.age,.int .i64 c1.fair,.int .i64 c1.size,.int .i64 c1.period,.int .i64 c1.half,.int .i64 now1,.slice a1 n1 n1,.slice j1 m1 m1,.int .i64 hd1]:=OutS.keep HO9.out (fun b cs tg h1 _ h2 _ _=>hch.block b (Array.getElem?_eq_some_iff.1 h2).1 (by have:=HGL.out.2;omega))
    have hAV:V.heap[pA]?=some (.cells #[.int .i64 c1.nodes,.int .i64 c1.queue,.int .i64 c1.limit,.int .i64 c1.age,.int .i64 c1.fair,.int .i64 c1.size,.int .i64 c1.period,.int .i64 c1.half,.int .i64 now1,.slice a1 n1 n1,.slice j1 m1 m1,.int .i64 hd1] 27 (0,0)):=(hch.block pA (Array.getElem?_eq_some_iff.1 HA9.out).1 (by have:=HGL.out.2;omega)).trans HA9.out
    have p0:V.cell? ⟨pA,0,none⟩=some (.int .i64 c1.nodes):=cells_at hAV rfl
    have p1:V.cell? ⟨pA,1,none⟩=some (.int .i64 c1.queue):=cells_at hAV rfl
    have p2:V.cell? ⟨pA,2,none⟩=some (.int .i64 c1.limit):=cells_at hAV rfl
    have p3:V.cell? ⟨pA,3,none⟩=some (.int .i64 c1.age):=cells_at hAV rfl
    have p4:V.cell? ⟨pA,4,none⟩=some (.int .i64 c1.fair):=cells_at hAV rfl
    have p5:V.cell? ⟨pA,5,none⟩=some (.int .i64 c1.size):=cells_at hAV rfl
    have p6:V.cell? ⟨pA,6,none⟩=some (.int .i64 c1.period):=cells_at hAV rfl
    have p7:V.cell? ⟨pA,7,none⟩=some (.int .i64 c1.half):=cells_at hAV rfl
    have p8:V.cell? ⟨pA,8,none⟩=some (.int .i64 now1):=cells_at hAV rfl
    have p9:V.cell? ⟨pA,9,none⟩=some (.slice a1 n1 n1):=cells_at hAV rfl
    have p10:V.cell? ⟨pA,10,none⟩=some (.slice j1 m1 m1):=cells_at hAV rfl
    have p11:V.cell? ⟨pA,11,none⟩=some (.int .i64 hd1):=cells_at hAV rfl
    have hpAV:=(Array.getElem?_eq_some_iff.1 hAV).1
    obtain⟨vs,Bs,Es,hlen,hown,hvz,hos,hord,hbd⟩:=HOU.out.ex
    have hownV:V.ownsRow w.heap.size 27 12 u5 k (flatV vs):=row_stand hown (fun b hb=>HXV.out.block b (World.ownsRow.lt hown b hb).2)
    obtain⟨Wz,hWz⟩:∃Wz,V.alloc (.cells #[.int .i64 c1.nodes,.int .i64 c1.queue,.int .i64 c1.limit,.int .i64 c1.age,.int .i64 c1.fair,.int .i64 c1.size,.int .i64 c1.period,.int .i64 c1.half,.int .i64 now1,.slice a1 n1 n1,.slice j1 m1 m1,.int .i64 hd1] 27)=Wz:=⟨_,rfl⟩
    have bz:Below V.heap.size V Wz:=by rw [← hWz];exact(Below.refl _ _).alloc (Nat.le_refl _) _
    have hnz:Wz.heap[V.heap.size]?=some (.cells #[.int .i64 c1.nodes,.int .i64 c1.queue,.int .i64 c1.limit,.int .i64 c1.age,.int .i64 c1.fair,.int .i64 c1.size,.int .i64 c1.period,.int .i64 c1.half,.int .i64 now1,.slice a1 n1 n1,.slice j1 m1 m1,.int .i64 hd1] 27 (0,0)):=by rw [← hWz];exact heap_alloc_new V _
    have hownZ:Wz.ownsRow w.heap.size 27 12 u5 k (flatV vs):=row_stand hownV (fun b hb=>bz.block b (World.ownsRow.lt hownV b hb).2)
    have HOZ:Hid (OutS Wz w3.heap.size pA (tt k) #[.int .i64 c1.nodes,.int .i64 c1.queue,.int .i64 c1.limit,.int .i64 c1.age,.int .i64 c1.fair,.int .i64 c1.size,.int .i64 c1.period,.int .i64 c1.half,.int .i64 now1,.slice a1 n1 n1,.slice j1 m1 m1,.int .i64 hd1]):=OutS.below hOV bz
    have HXZ:Hid (Below wr.heap.size wr Wz):=HXV.out.trans (bz.mono HXV.out.size)
    have HOW:Hid _:=hownZ
    have HNZ:Hid _:=hnz
    have HPZ:Hid (pA<Wz.heap.size):=Nat.lt_of_lt_of_le hpAV bz.size
    have HOS:Hid _:=hos
    have HORD:Hid _:=hord
    have HBD:Hid _:=hbd
    have HVZ:Hid _:=hvz
    have HLE:Hid _:=hlen
    have HZ3:Hid (wr.heap.size≤w3.heap.size∧w3.heap.size≤pA):=⟨HX3.out.size,hz34⟩
    clear hV hch hOV hAV hcut hownV hown hownZ bz hnz hos hord hbd hvz hlen hpAV HX9 HO9 HA9 HG9 HXV hsz9 hz34 hz5 HBT HGT HFG HSB
    go_wp2_with (at_builtin;refine wpList_append_own_wide _ rfl (.tmp 87) (.tmp 89) 42 rfl w.heap.size 27 iS _ 12 128 Tryz.underlying42 hiS hzS0 hzS1 hzS2 rfl (by omega) u5 k (flatV vs) rfl HOW.out ⟨V.heap.size,0,none⟩ 1 1 [.int .i64 c1.nodes,.int .i64 c1.queue,.int .i64 c1.limit,.int .i64 c1.age,.int .i64 c1.fair,.int .i64 c1.size,.int .i64 c1.period,.int .i64 c1.half,.int .i64 now1,.slice a1 n1 n1,.slice j1 m1 m1,.int .i64 hd1] rfl rfl (World.news_of_block (cs:= #[.int .i64 c1.nodes,.int .i64 c1.queue,.int .i64 c1.limit,.int .i64 c1.age,.int .i64 c1.fair,.int .i64 c1.size,.int .i64 c1.period,.int .i64 c1.half,.int .i64 now1,.slice a1 n1 n1,.slice j1 m1 m1,.int .i64 hd1]) (t:=27) (fr:=(0,0)) HNZ.out) (by simp [Value.oneCell']) (by unfold maxLen;omega) (by omega) (Nat.le_trans HBL.out.size HXZ.out.size) ?_;intro v9 w9x o9 g9 _;have HO9x:Hid (w9x.ownsRow w.heap.size 27 12 v9 (k+1) (flatV (vs++ [#[.int .i64 c1.nodes,.int .i64 c1.queue,.int .i64 c1.limit,.int .i64 c1.age,.int .i64 c1.fair,.int .i64 c1.size,.int .i64 c1.period,.int .i64 c1.half,.int .i64 now1,.slice a1 n1 n1,.slice j1 m1 m1,.int .i64 hd1]]))):=(show World.ownsRow _ _ _ _ _ _ _ from by rw [flatV_app];exact o9);have HG9x:Hid _:=g9;clear o9 g9)
    have HOT:Hid (Oth Wz w9x):=Oth.grown HOW.out HG9x.out
    go_roundg (3 - (k+1))
    case measure=>omega
    case rel=>
     have hzw:=HXZ.out.size
     have hzz:=HOT.out.s
     refine⟨k+1,by omega,by go_num,⟨vs++ [#[.int .i64 c1.nodes,.int .i64 c1.queue,.int .i64 c1.limit,.int .i64 c1.age,.int .i64 c1.fair,.int .i64 c1.size,.int .i64 c1.period,.int .i64 c1.half,.int .i64 now1,.slice a1 n1 n1,.slice j1 m1 m1,.int .i64 hd1]],fun j=>if j=k then w3.heap.size else Bs j,fun j=>if j=k then pA else Es j,by rw [List.length_append,HLE.out];rfl,HO9x.out,fun v hv=>?_,fun j v hj hv=>?_,fun i j hij hj=>?_,fun j hj=>?_⟩,?_⟩
     ·rcases List.mem_append.1 hv with h | h
      ·exact HVZ.out v h
      ·rw [List.mem_singleton.1 h];rfl
     ·by_cases e:j=k
      ·subst e
       simp only [if_true]
       rw [List.getElem?_append_right (by rw [HLE.out];exact Nat.le_refl _),HLE.out,Nat.sub_self]at hv
       cases hv
       exact HOZ.out.oth HOT.out
      ·have hjl:j<k:=by
        have:=(List.getElem?_eq_some_iff.1 hv).1
        rw [List.length_append,HLE.out]at this
        simp at this
        omega
       simp only [if_neg e]
       rw [List.getElem?_append_left (by rw [HLE.out];exact hjl)]at hv
       exact(OutS.keep (HOS.out j v hj hv) (fun b cs tg _ _ h _ _=>HXZ.out.block b (Array.getElem?_eq_some_iff.1 h).1)).oth HOT.out
     ·by_cases e:j=k
      ·have hne:i≠k:=by omega
       simp only [if_neg hne,if_pos e]
       have:=(HBD.out i (by omega)).2
       have:=HZ3.out.1
       omega
      ·have hne:i≠k:=by omega
       simp only [if_neg hne,if_neg e]
       exact HORD.out i j hij (by omega)
     ·by_cases e:j=k
      ·simp only [if_pos e]
       have:=HZ3.out
       have:=HPZ.out
       have:=HBL.out.size
       omega
      ·simp only [if_neg e]
       have:=HBD.out j (by omega)
       omega
     ·have hg:=HG9x.out
      exact⟨hg.os.trans (HXZ.out.os.trans HBL.out.os),hg.tape.trans (HXZ.out.tape.trans HBL.out.tape),hg.output.trans (HXZ.out.output.trans HBL.out.output),by have:=HBL.out.size;omega,fun b hb=>(hg.block b (by have:=HBL.out.size;omega) (fun e=>by have:=World.ownsRow.lt HOW.out b e.symm;omega)).trans ((HXZ.out.block b (by have:=HBL.out.size;omega)).trans (HBL.out.block b hb))⟩
   ·have hlt':¬(k:Int)<3:=by omega
    obtain rfl:k=3:=by omega
    have HOU:Hid _:=hou
    have HBL:Hid _:=hbl
    clear hou hbl HO2 HB2
    go_wp2
    go_meet
    exact⟨HOU.out,HBL.out⟩
 case rest=>
 obtain⟨hou,hbl⟩:=hcut
 obtain⟨V0,hV⟩:∃V:World,V=wc:=⟨_,rfl⟩
 rw [← hV]at hou hbl
 rw [← hV]
 obtain⟨po,hpo⟩:∃po,u5=po:=⟨_,rfl⟩
 rw [hpo]at hou ⊢
 have HO3:Hid _:=hou
 have HB3:Hid _:=hbl
 clear hV hou hbl hpo HO2 HB2 hzS0 hzS1 hzS2 hiS
 go_upto_block 4 with fail
 go_wp2_with fail
 go_loopg [15] 3 (fun gk pk wr=>∃k:Nat,k+gk=3∧pk=.int .i64 k∧Outs w.heap.size wr po 3 tt k∧Below w.heap.size w wr)
 case atStart=>exact⟨0,by omega,rfl,HO3.out,HB3.out⟩
 case round=>
  obtain⟨k,hk,rfl,hou,hbl⟩:=hrel
  by_cases hlt:k<3
  ·have hlt':(k:Int)<3:=by omega
   have HOU:Hid _:=hou
   have HBL:Hid _:=hbl
   clear hou hbl HO3 HB3
   go_upto_if 97 with fail
   go_cut [16] (fun v y=>v=(if k=1 then b1 else b0)∧y=wr)
   case first=>
    by_cases hk1:k=1
    ·have hk1':(k:Int)=1:=by omega
     have HE:Hid ((if k=1 then b1 else b0)=b1):=if_pos hk1
     have hq:((k:Int)==1)=true:=by simp [hk1']
     subst hk1
     go_wp2
     go_meet
     exact⟨HE.out.symm,rfl⟩
    ·have hk1':¬(k:Int)=1:=by omega
     have HE:Hid ((if k=1 then b1 else b0)=b0):=if_neg hk1
     have hq:((k:Int)==1)=false:=by simp [hk1']
     go_wp2
     go_meet
     exact⟨HE.out.symm,rfl⟩
   case rest=>
   obtain⟨hv7,hwc⟩:=hcut
   rw [hwc]
   obtain⟨ao,r,c,code,hv,hbt,hc,hn,hl,hG⟩:=(HW.out k).ex
   have e7:=hv7.trans hv
   subst e7
   clear hv7 hwc hv
   have hfg:=fget_out (w:=wr) (c0:=c) hG (hbt.below HBL.out) hc hn (by omega)
   obtain⟨n,hnn⟩:∃n,r.length=n:=⟨_,rfl⟩
   rw [hnn]at hfg ⊢
   clear hbt hG hn hnn hc hl
   go_upto_region 28 with(go_at_call 18;refine(show Calls _ _ _ _ _ from hfg).mono ?_;rintro e w3 ⟨u,rfl,hS3,_,b3⟩;obtain⟨c2,now2,hd2,a2,n2,x2,j2,m2,y2,rfl⟩:=hS3.form;have HS3:Hid _:=hS3;have HB3:Hid _:=b3;clear hS3 b3)
   obtain⟨W4,hW4⟩:∃W4,w3.alloc (.cells #[.int .i64 c2.nodes,.int .i64 c2.queue,.int .i64 c2.limit,.int .i64 c2.age,.int .i64 c2.fair,.int .i64 c2.size,.int .i64 c2.period,.int .i64 c2.half,.int .i64 now2,.slice a2 n2 x2,.slice j2 m2 y2,.int .i64 hd2] 27)=W4:=⟨_,rfl⟩
   have b4:Below w3.heap.size w3 W4:=by rw [← hW4];exact(Below.refl _ _).alloc (Nat.le_refl _) _
   have hB4:W4.heap[w3.heap.size]?=some (.cells #[.int .i64 c2.nodes,.int .i64 c2.queue,.int .i64 c2.limit,.int .i64 c2.age,.int .i64 c2.fair,.int .i64 c2.size,.int .i64 c2.period,.int .i64 c2.half,.int .i64 now2,.slice a2 n2 x2,.slice j2 m2 y2,.int .i64 hd2] 27 (0,0)):=by rw [← hW4];exact heap_alloc_new w3 _
   have hX4:Below wr.heap.size wr W4:=HB3.out.trans (b4.mono HB3.out.size)
   have hst4:=StV.below HS3.out b4
   rw [hW4]
   obtain⟨pB,hpB⟩:∃pB,w3.heap.size=pB:=⟨_,rfl⟩
   rw [hpB]at hB4 ⊢
   obtain⟨vs,Bs,Es,hlen,hown,hvz,hos,hord,hbd⟩:=HOU.out.ex
   obtain⟨v,hv⟩:∃v,vs[k]?=some v:=⟨_,List.getElem?_eq_getElem (by omega)⟩
   have hov:=hos k v (Nat.le_refl _) hv
   obtain⟨c1,now1,hd1,a1,n1,j1,m1,rfl⟩:=hov.form
   have hof:=own_form hown
   obtain⟨gO,co,sc,hpo,hco,hcl⟩:∃(gO:Nat) (co:Array Value) (sc:Nat),po=.slice (some ⟨gO,0,none⟩) 3 sc∧wr.heap[gO]?=some (.cells co 27 (0,0))∧∀c u,((#[.int .i64 c1.nodes,.int .i64 c1.queue,.int .i64 c1.limit,.int .i64 c1.age,.int .i64 c1.fair,.int .i64 c1.size,.int .i64 c1.period,.int .i64 c1.half,.int .i64 now1,.slice a1 n1 n1,.slice j1 m1 m1,.int .i64 hd1]:Array Value))[c]?=some u→co[k*12+c]?=some u:=by
    rcases hown.2 with⟨_,h0⟩ | ⟨gO,cap,cur,h1,_,h3,_,_,_,h7⟩
    ·cases h0
    ·refine ⟨gO,cur,cap,h1,h3,fun c u hu=>?_⟩
     have h8:=flatV_at vs hvz k _ hv c u hu
     have hc12:c<12:=(Array.getElem?_eq_some_iff.1 hu).1
     rw [← h7,List.getElem?_take_of_lt (by omega)]at h8
     simpa using h8
   subst hpo
   clear hof
   have hO4:W4.heap[gO]?=some (.cells co 27 (0,0)):=(hX4.block gO (Array.getElem?_eq_some_iff.1 hco).1).trans hco
   have hov4:=OutS.keep hov (W':=W4) (fun b cs tg _ _ h _ _=>hX4.block b (Array.getElem?_eq_some_iff.1 h).1)
   have hsm:=same_out (W:=W4.drew) (OutS.keep hov4 (fun b cs tg _ _ h _ _=>rfl)) (StV.below hst4 (drew_below W4))
   have HSM:Hid _:=hsm
   have HOV:Hid _:=hov4
   have HCLS:Hid _:=hcl
   have HX4:Hid _:=hX4
   have HOS:Hid _:=hos
   have HORD:Hid _:=hord
   have HBD:Hid _:=hbd
   have HVZ:Hid _:=hvz
   have HLE:Hid _:=hlen
   have HOWN:Hid _:=hown
   have hk0:(0:Int)≤k:=by omega
   clear hW4 b4 hX4 hst4 hfg hpB hlen hown hvz hos hord hbd hv hov hov4 hsm hcl hco HS3 HB3
   refine wp_region_last (S:=(fun y:World=>y.heap[gO]?=some (.cells co 27 (0,0))∧y.heap[pB]?=some (.cells #[.int .i64 c2.nodes,.int .i64 c2.queue,.int .i64 c2.limit,.int .i64 c2.age,.int .i64 c2.fair,.int .i64 c2.size,.int .i64 c2.period,.int .i64 c2.half,.int .i64 now2,.slice a2 n2 x2,.slice j2 m2 y2,.int .i64 hd2] 27 (0,0)))) (L:=99) (by kernel_rfl) ?_
   have HS0:(fun y:World=>y.heap[gO]?=some (.cells co 27 (0,0))∧y.heap[pB]?=some (.cells #[.int .i64 c2.nodes,.int .i64 c2.queue,.int .i64 c2.limit,.int .i64 c2.age,.int .i64 c2.fair,.int .i64 c2.size,.int .i64 c2.period,.int .i64 c2.half,.int .i64 now2,.slice a2 n2 x2,.slice j2 m2 y2,.int .i64 hd2] 27 (0,0))) W4.drew:=⟨hO4,hB4⟩
   have HF:Hid (∀xx:World,(fun y:World=>y.heap[gO]?=some (.cells co 27 (0,0))∧y.heap[pB]?=some (.cells #[.int .i64 c2.nodes,.int .i64 c2.queue,.int .i64 c2.limit,.int .i64 c2.age,.int .i64 c2.fair,.int .i64 c2.size,.int .i64 c2.period,.int .i64 c2.half,.int .i64 now2,.slice a2 n2 x2,.slice j2 m2 y2,.int .i64 hd2] 27 (0,0))) xx→xx.cell? ⟨gO,k*12,none⟩=some (.int .i64 c1.nodes)∧xx.cell? ⟨gO,k*12+1,none⟩=some (.int .i64 c1.queue)∧xx.cell? ⟨gO,k*12+2,none⟩=some (.int .i64 c1.limit)∧xx.cell? ⟨gO,k*12+3,none⟩=some (.int .i64 c1.age)∧xx.cell? ⟨gO,k*12+4,none⟩=some (.int .i64 c1.fair)∧xx.cell? ⟨gO,k*12+5,none⟩=some (.int .i64 c1.size)∧xx.cell? ⟨gO,k*12+6,none⟩=some (.int .i64 c1.period)∧xx.cell? ⟨gO,k*12+7,none⟩=some (.int .i64 c1.half)∧xx.cell? ⟨gO,k*12+8,none⟩=some (.int .i64 now1)∧xx.cell? ⟨gO,k*12+9,none⟩=some (.slice a1 n1 n1)∧xx.cell? ⟨gO,k*12+10,none⟩=some (.slice j1 m1 m1)∧xx.cell? ⟨gO,k*12+11,none⟩=some (.int .i64 hd1)∧xx.cell? ⟨pB,0,none⟩=some (.int .i64 c2.nodes)∧xx.cell? ⟨pB,1,none⟩=some (.int .i64 c2.queue)∧xx.cell? ⟨pB,2,none⟩=some (.int .i64 c2.limit)∧xx.cell? ⟨pB,3,none⟩=some (.int .i64 c2.age)∧xx.cell? ⟨pB,4,none⟩=some (.int .i64 c2.fair)∧xx.cell? ⟨pB,5,none⟩=some (.int .i64 c2.size)∧xx.cell? ⟨pB,6,none⟩=some (.int .i64 c2.period)∧xx.cell? ⟨pB,7,none⟩=some (.int .i64 c2.half)∧xx.cell? ⟨pB,8,none⟩=some (.int .i64 now2)∧xx.cell? ⟨pB,9,none⟩=some (.slice a2 n2 x2)∧xx.cell? ⟨pB,10,none⟩=some (.slice j2 m2 y2)∧xx.cell? ⟨pB,11,none⟩=some (.int .i64 hd2)∧True):=fun xx hSx=>⟨cells_at hSx.1 (HCLS.out 0 _ rfl),cells_at hSx.1 (HCLS.out 1 _ rfl),cells_at hSx.1 (HCLS.out 2 _ rfl),cells_at hSx.1 (HCLS.out 3 _ rfl),cells_at hSx.1 (HCLS.out 4 _ rfl),cells_at hSx.1 (HCLS.out 5 _ rfl),cells_at hSx.1 (HCLS.out 6 _ rfl),cells_at hSx.1 (HCLS.out 7 _ rfl),cells_at hSx.1 (HCLS.out 8 _ rfl),cells_at hSx.1 (HCLS.out 9 _ rfl),cells_at hSx.1 (HCLS.out 10 _ rfl),cells_at hSx.1 (HCLS.out 11 _ rfl),cells_at hSx.2 rfl,cells_at hSx.2 rfl,cells_at hSx.2 rfl,cells_at hSx.2 rfl,cells_at hSx.2 rfl,cells_at hSx.2 rfl,cells_at hSx.2 rfl,cells_at hSx.2 rfl,cells_at hSx.2 rfl,cells_at hSx.2 rfl,cells_at hSx.2 rfl,cells_at hSx.2 rfl,trivial⟩
   refine tk 0 HS0 (h:=?_)
   refine tk 1 HS0 (h:=?_)
   refine tk 2 HS0 (h:=?_)
   refine tk 3 HS0 (h:=?_)
   refine tk 4 HS0 (h:=?_)
   refine last_one (i:=5) (by kernel_rfl) rfl ?_
   intro K hK
   go_simp
   go_at_call 19
   refine(show Calls _ _ _ _ _ from HSM.out).mono ?_
   rintro e w5 ⟨rfl,b5⟩
   have HS5:(fun y:World=>y.heap[gO]?=some (.cells co 27 (0,0))∧y.heap[pB]?=some (.cells #[.int .i64 c2.nodes,.int .i64 c2.queue,.int .i64 c2.limit,.int .i64 c2.age,.int .i64 c2.fair,.int .i64 c2.size,.int .i64 c2.period,.int .i64 c2.half,.int .i64 now2,.slice a2 n2 x2,.slice j2 m2 y2,.int .i64 hd2] 27 (0,0))) w5:=⟨(b5.block gO (Array.getElem?_eq_some_iff.1 hO4).1).trans hO4,(b5.block pB (Array.getElem?_eq_some_iff.1 hB4).1).trans hB4⟩
   have HB5:Hid (Below W4.heap.size W4 w5):=⟨b5.os,b5.tape,b5.output,b5.size,b5.block⟩
   refine hK.out _ _ (fun _=>HS5) (fun _=>?_)
   clear hK K b5 HS0
   refine tk 6 HS5 (h:=?_)
   refine tk 7 HS5 (h:=?_)
   refine tk 8 HS5 (h:=?_)
   refine tk 9 HS5 (h:=?_)
   refine tk 10 HS5 (h:=?_)
   refine tk 11 HS5 (h:=?_)
   have hsp:=spoils_out (OutS.below HOV.out HB5.out)
   refine last_one (i:=12) (by kernel_rfl) rfl ?_
   intro K hK
   refine ite_yes (by rfl) ?_
   go_simp
   go_at_call 20
   refine(show Calls _ _ _ _ _ from hsp).mono ?_
   rintro e w6 ⟨rfl,hc6⟩
   have HS6:(fun y:World=>y.heap[gO]?=some (.cells co 27 (0,0))∧y.heap[pB]?=some (.cells #[.int .i64 c2.nodes,.int .i64 c2.queue,.int .i64 c2.limit,.int .i64 c2.age,.int .i64 c2.fair,.int .i64 c2.size,.int .i64 c2.period,.int .i64 c2.half,.int .i64 now2,.slice a2 n2 x2,.slice j2 m2 y2,.int .i64 hd2] 27 (0,0))) w6:=⟨(hc6.block gO (Array.getElem?_eq_some_iff.1 HS5.1).1 (fun h=>h.2.2 _ _ HS5.1)).trans HS5.1,(hc6.block pB (Array.getElem?_eq_some_iff.1 HS5.2).1 (fun h=>h.2.2 _ _ HS5.2)).trans HS5.2⟩
   have HC6:Hid _:=hc6
   refine hK.out _ _ (fun _=>HS6) (fun _=>?_)
   clear hK K hc6 hsp
   refine tk 13 HS6 (h:=?_)
   refine tk 14 HS6 (h:=?_)
   refine last_done (by kernel_rfl) ?_ _
   have hX5:Below wr.heap.size wr w5:=HX4.out.trans (HB5.out.mono HX4.out.size)
   have HX5:Hid _:=hX5
   have hbk:=HBD.out k hlt
   have HOUN:Hid (Outs w.heap.size w6 (.slice (some ⟨gO,0,none⟩) 3 sc) 3 tt (k+1)):=by
    refine⟨vs,Bs,Es,HLE.out,row_stand HOWN.out (fun b hb=>?_),HVZ.out,fun j v hj hv=>?_,HORD.out,fun j hj=>?_⟩
    ·cases hb
     exact HS6.1.trans (by
      rcases HOWN.out.2 with⟨e,_⟩ | ⟨g',cap,cur,e,_,h3,_⟩
      ·cases e
      ·cases e
       exact((hX5.block gO (Array.getElem?_eq_some_iff.1 h3).1).symm.trans HS5.1).symm)
    ·have hjl:j<3:=by have:=(List.getElem?_eq_some_iff.1 hv).1;rw [HLE.out]at this;exact this
     have ho:=HORD.out k j (by omega) hjl
     have h5:=OutS.keep (HOS.out j v (by omega) hv) (W':=w5) (fun b cs tg _ _ h _ _=>hX5.block b (Array.getElem?_eq_some_iff.1 h).1)
     exact OutS.keep h5 (fun b cs tg hb1 _ h _ _=>HC6.out.block b (Array.getElem?_eq_some_iff.1 h).1 (fun hh=>by have:=hh.2.1;omega))
    ·have:=HBD.out j hj
     have:=hX5.size
     have:=HC6.out.size
     omega
   have HBN:Hid (Below w.heap.size w w6):=⟨HC6.out.os.trans (hX5.os.trans HBL.out.os),HC6.out.tape.trans (hX5.tape.trans HBL.out.tape),HC6.out.output.trans (hX5.output.trans HBL.out.output),Nat.le_trans HBL.out.size (Nat.le_trans hX5.size HC6.out.size),fun b hb=>(HC6.out.block b (by have:=HBL.out.size;have:=hX5.size;omega) (fun hh=>by have:=hh.1;omega)).trans ((hX5.block b (by have:=HBL.out.size;omega)).trans (HBL.out.block b hb))⟩
   clear HF HS5 HS6 hX5 hO4 hB4 HSM HOV HCLS HX4 HOS HORD HBD HVZ HLE HOWN HX5 HC6 HB5
   go_wp2
   go_roundg (3 - (k+1))
   case measure=>omega
   case rel=>exact⟨k+1,by omega,by go_num,HOUN.out,HBN.out⟩
  ·have hlt':¬(k:Int)<3:=by omega
   have HBL:Hid _:=hbl
   clear hou hbl HO3 HB3
   go_wp2
   go_ret
   exact⟨rfl,HBL.out⟩
end Go.Proofs.YtceoibfliggalaaGreatDoor
namespace Go.Proofs.YtceoibfliggalaaGreatDoor
open Go.ChangeShapes Go.WideShapes Go.ChangeAt Go.RowKit Go.Joins Wd Ld Cg Tr Lg
set_option maxRecDepth 100000 in
theorem reads_lifted (os:Os) (started:os.Started) (H:Type) (enc:TypeId×Value→H):
  ReturnsInHanded {} Tryz.checked os 4 .any (fun w args=>(Rows.snapReadsSpec.pre enc Tryz.prog Tryz.f4 [] false w args∧laidMetH Tryz.prog LaidL w)∧sizedMet enc Tryz.prog Tryz.f4 (OpenSpec.ofChange Rows.snapReadsSpec) false w args)
   (Rows.snapReadsSpec.post enc Tryz.prog Tryz.f4 false true false false):=by
 refine returnsInHanded_of_change_and (C:=Tryz.checked) (X:=fun w _=>laidMetH Tryz.prog LaidL w) (fun _ _ _ hh h=>h.of_heap hh) Tryz.own started (by kernel_rfl) Tryz.func4
  (ChangeSpec.witness_at (enc:=enc) (C:=Tryz.checked) (os:=os) (X:=fun w _=>laidMetH Tryz.prog LaidL w) false {World.holding Tryz.prog os ⟨#[],#[],[]⟩with heap:=(World.holding Tryz.prog os ⟨#[],#[],[]⟩).heap.modify 0 laidObj} #[.slice none 0 0,.slice none 0 0] 8 rfl (by kernel_rfl) (by kernel_rfl) (by kernel_rfl) (by kernel_rfl) (by kernel_rfl) (laid_met os _)) ?_
 intro W base args ds gs before hval0 hW _ hsz0 hL _
 have hsz:(DataW.weightsEach Tryz.prog (Tryz.f4.params.toList++Rows.snapReadsSpec.plain.varTypes Tryz.prog) (ds++gs)).all (· ≤reachBytes)=true:=hsz0
 have hval:∀(j:Nat) t v,Tryz.f4.params[j]?=some t→args[j]?=some v→Value.okWide Tryz.prog W .any base t v:=hval0
 have hW':=hW
 obtain⟨p,q,hA0,hV,rfl,hfz,hnd⟩:=hW
 have hA:DataW.TrodAll enc Tryz.prog W 0 (fun _=>true) true Tryz.f4.params.toList args.toList ds p:=hA0
 rw [Tryz.params4]at hA hval hsz
 obtain⟨v0,v1,d0,d1,p0,p1,rfl,rfl,rfl,h0,h1⟩:=trodAll_two hA
 obtain⟨rfl,rfl⟩:=trodVars_none hV
 have hk0:=h0
 obtain⟨ao0,n0,sc0,rfl⟩:=okWide_slice Tryz.underlying35 (hval 0 35 v0 rfl rfl)
 obtain⟨fuel0,hf0⟩:=h0
 obtain⟨hb0,r0,rfl,ha0,hnl0,hcp0⟩:=bytes_in hf0 (fun k hk=>of_decide_eq_true (List.all_eq_true.1 hsz k (DataW.weights_mem_each (j:=0) (t:=35) rfl rfl k hk)))
 have hk1:=h1
 obtain⟨ao1,n1,sc1,rfl⟩:=okWide_slice Tryz.underlying35 (hval 1 35 v1 rfl rfl)
 obtain⟨fuel1,hf1⟩:=h1
 obtain⟨hb1,r1,rfl,ha1,hnl1,hcp1⟩:=bytes_in hf1 (fun k hk=>of_decide_eq_true (List.all_eq_true.1 hsz k (DataW.weights_mem_each (j:=1) (t:=35) rfl rfl k hk)))
 clear hA0 hval0
 simp only [List.append_nil]at hW'
 have hT:=tab_of_laid hL
 have hlt0:∀x∈p0,x.block<W.heap.size:=fun x hx=>hW'.lt x (by simp [hx])
 have a0:∀(W':World),Below W.heap.size W W'→DataW.Trod enc Tryz.prog W' 0 (fun b=>decide (b<W.heap.size)) true 35 _ d0 p0:=
  fun W' hn=>Below.trod Tryz.laidOut (by kernel_rfl) (of_decide_eq_true (by kernel_rfl)) hk0 hn hlt0
 have hlt1:∀x∈p1,x.block<W.heap.size:=fun x hx=>hW'.lt x (by simp [hx])
 have a1:∀(W':World),Below W.heap.size W W'→DataW.Trod enc Tryz.prog W' 0 (fun b=>decide (b<W.heap.size)) true 35 _ d1 p1:=
  fun W' hn=>Below.trod Tryz.laidOut (by kernel_rfl) (of_decide_eq_true (by kernel_rfl)) hk1 hn hlt1
 obtain⟨e0,t0,hg0⟩:=gd_any r0
 obtain⟨e1,t1,hg1⟩:=gd_any r1
 refine(reads_walk hT ⟨ao0,r0,sc0,e0,rfl,ha0,hcp0,hnl0,hb0,hg0⟩ ⟨ao1,r1,sc1,e1,rfl,ha1,hcp1,hnl1,hb1,hg1⟩).mono fun e W' ⟨he,hg⟩=>?_
 subst he
 exact⟨_,rfl,_,_,_,[],_,[],hW',trodAll_mk1 (shut_bool Tryz.underlying4 _),trodAll_mk2 (a0 W' hg) (a1 W' hg),rfl,hg.frame _,fun h=>by cases h⟩
theorem reads_row:Rows.SnapReadsSaid:=
 OpenClaim.holds_of_wide 4 Tryz.f4 rfl rfl rfl rfl rfl rfl rfl ⟨rfl,rfl,rfl,rfl,rfl⟩ rfl rfl rfl rfl rfl (by kernel_rfl) Tryz.func4 (by kernel_rfl)
  (of_decide_eq_true (by kernel_rfl)) (by unfold Func.isWrapper;first | (rw [if_pos (by decide +kernel)];kernel_rfl) | (rw [if_neg (by decide +kernel)];exact⟨rfl,rfl⟩))
  (fun os started H enc _=>reads_lifted os started H enc)
theorem reads_holds:Rows.SnapReadsCardSaid:=
 Claim7.holds_tied_plain_at .later [] [.data] true (true, "93019a37b43cc40eb6d377bad41c526b5da69ceac612c8bded333125ab71b752") true
  reads_row (fun _ h=>by cases h) (by kernel_rfl) (fun _ h=>by cases h) snapReads_row_tie rfl ⟨rfl,rfl⟩ (by kernel_rfl) rfl
  (fun f fn hf hfn=>by
   obtain rfl:f=4:=Option.some.inj ((show Tryz.prog.funcNamed "backfill/backfilllaw19.SnapReads" =some 4 by kernel_rfl).symm.trans hf) |>.symm
   obtain rfl:fn=Tryz.f4:=(Option.some.inj (Tryz.func4.symm.trans hfn)).symm
   exact⟨by kernel_rfl,fun j t ht=>by
    rw [Tryz.params4]at ht
    have h3:t=35:=by
     rcases j with _ | _ | j
     ·simpa using ht.symm
     ·simpa using ht.symm
     ·simp at ht
    subst h3
    exact(show Tryz.prog.wantsStandIn 35=false by kernel_rfl)⟩)
  (by kernel_rfl)
end Go.Proofs.YtceoibfliggalaaGreatDoor
namespace Go.Proofs.YtceoibfliggalaaGreatDoor
#print axioms reads_holds
end Go.Proofs.YtceoibfliggalaaGreatDoor

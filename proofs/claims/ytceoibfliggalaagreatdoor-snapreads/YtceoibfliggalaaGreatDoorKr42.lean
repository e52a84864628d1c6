/-
  TEXTS: SnU, SnV.
-/
import Derived.Test.YtceoibfliggalaaGreatDoorKr40
import Derived.Test.YtceoibfliggalaaGreatDoorKr41
namespace Go.Proofs.YtceoibfliggalaaGreatDoor
open Go.RowKit Wd Tr Cg Ld Lg
set_option maxRecDepth 20000 in
set_option maxHeartbeats 2000000 in
theorem load_none {w:World} {c:Cf} {ao:Option Addr} {la:List Ac} {ca:Nat} {jo:Option Addr} {cj:Nat} (h:StIn w ao la ca jo [] cj) (hwt:wtN la []≤281474976710656) (hok:auditV (chkZ c) ⟨c,0,la,[], -1⟩=0) (hld:loadE la=0) (hck:chkZ c=0) (hus:Lr.Lg.Wds (usL la)) (hl:la.length≤64) (hrt:Tab w) (hn1:1≤c.nodes) (hn2:c.nodes≤256):
  Calls Tryz.prog 45 #[.agg #[.int .i64 c.nodes,.int .i64 c.queue,.int .i64 c.limit,.int .i64 c.age,.int .i64 c.fair,.int .i64 c.size,.int .i64 c.period,.int .i64 c.half,.int .i64 0,.slice ao la.length ca,.slice jo 0 cj,.int .i64 (-1)]] w fun e w'=>(∃x:Nat,e=.returned (.tuple #[.pointer (some ⟨x,0,none⟩),.int .i64 0]))∧Below w.heap.size w w':=by
 obtain⟨W,hW⟩:∃W,w.alloc (.cells #[.int .i64 c.nodes,.int .i64 c.queue,.int .i64 c.limit,.int .i64 c.age,.int .i64 c.fair,.int .i64 c.size,.int .i64 c.period,.int .i64 c.half,.int .i64 0,.slice ao la.length ca,.slice jo 0 cj,.int .i64 (-1)] 27)=W:=⟨_,rfl⟩
 have bW:Below w.heap.size w W:=by rw [← hW];exact(Below.refl _ _).alloc (Nat.le_refl _) _
 have zW:W.heap.size=w.heap.size+1:=by rw [← hW];simp
 have hg:W.heap[w.heap.size]?=some (.cells #[.int .i64 c.nodes,.int .i64 c.queue,.int .i64 c.limit,.int .i64 c.age,.int .i64 c.fair,.int .i64 c.size,.int .i64 c.period,.int .i64 c.half,.int .i64 0,.slice ao la.length ca,.slice jo 0 cj,.int .i64 (-1)] 27 (0,0)):=by rw [← hW];exact heap_alloc_new w _
 have hk:=check_any W c 0 ao la ca jo [] cj (-1) (h.below bW) hwt
 rw [show List.map Pj.v []= []from rfl,hok]at hk
 unfold stL at hk
 have HSD:Hid (∀x,Below W.heap.size W x→Calls Tryz.prog 41 #[.agg #[.int .i64 c.nodes,.int .i64 c.queue,.int .i64 c.limit,.int .i64 c.age,.int .i64 c.fair,.int .i64 c.size,.int .i64 c.period,.int .i64 c.half,.int .i64 0,.slice ao la.length ca,.slice jo 0 cj,.int .i64 (-1)]] x fun e w'=>∃x:Nat,e=.returned (.pointer (some ⟨x,0,none⟩))∧Below W.heap.size W w'):=fun x hx=>(standing_any (jo:=jo) (cj:=cj) (((h.below bW).below hx).acs) hld hck h.nm hus hl h.cap ((hrt.below bW).below hx) hn1 hn2).mono (fun e w' k=>by obtain⟨y,e1,_,e3⟩:=k;exact⟨y,e1,hx.trans (e3.mono hx.size)⟩)
 have HCK:Hid _:=hk
 have HG:Hid _:=hg
 have HBW:Hid _:=bW
 have p0:W.cell? ⟨w.heap.size,0,none⟩=some (.int .i64 c.nodes):=cells_at hg rfl
 have p1:W.cell? ⟨w.heap.size,1,none⟩=some (.int .i64 c.queue):=cells_at hg rfl
 have p2:W.cell? ⟨w.heap.size,2,none⟩=some (.int .i64 c.limit):=cells_at hg rfl
 have p3:W.cell? ⟨w.heap.size,3,none⟩=some (.int .i64 c.age):=cells_at hg rfl
 have p4:W.cell? ⟨w.heap.size,4,none⟩=some (.int .i64 c.fair):=cells_at hg rfl
 have p5:W.cell? ⟨w.heap.size,5,none⟩=some (.int .i64 c.size):=cells_at hg rfl
 have p6:W.cell? ⟨w.heap.size,6,none⟩=some (.int .i64 c.period):=cells_at hg rfl
 have p7:W.cell? ⟨w.heap.size,7,none⟩=some (.int .i64 c.half):=cells_at hg rfl
 have p8:W.cell? ⟨w.heap.size,8,none⟩=some (.int .i64 0):=cells_at hg rfl
 have p9:W.cell? ⟨w.heap.size,9,none⟩=some (.slice ao la.length ca):=cells_at hg rfl
 have p10:W.cell? ⟨w.heap.size,10,none⟩=some (.slice jo 0 cj):=cells_at hg rfl
 have p11:W.cell? ⟨w.heap.size,11,none⟩=some (.int .i64 (-1)):=cells_at hg rfl
 clear h hwt hok hld hck hus hl hrt hn1 hn2 bW hg hk
 go_enter Tryz.func45,Tryz.ntmps45
 go_wp2_with (first
  | (go_at_call 27;refine(show Calls _ _ _ _ _ from HCK.out).mono ?_;rintro e w1 ⟨rfl,hb1⟩;have HB1:Hid _:=hb1;have q0:w1.cell? ⟨w.heap.size,0,none⟩=some (.int .i64 c.nodes):=cells_at ((hb1.block _ (by omega)).trans HG.out) rfl;have q1:w1.cell? ⟨w.heap.size,1,none⟩=some (.int .i64 c.queue):=cells_at ((hb1.block _ (by omega)).trans HG.out) rfl;have q2:w1.cell? ⟨w.heap.size,2,none⟩=some (.int .i64 c.limit):=cells_at ((hb1.block _ (by omega)).trans HG.out) rfl;have q3:w1.cell? ⟨w.heap.size,3,none⟩=some (.int .i64 c.age):=cells_at ((hb1.block _ (by omega)).trans HG.out) rfl;have q4:w1.cell? ⟨w.heap.size,4,none⟩=some (.int .i64 c.fair):=cells_at ((hb1.block _ (by omega)).trans HG.out) rfl;have q5:w1.cell? ⟨w.heap.size,5,none⟩=some (.int .i64 c.size):=cells_at ((hb1.block _ (by omega)).trans HG.out) rfl;have q6:w1.cell? ⟨w.heap.size,6,none⟩=some (.int .i64 c.period):=cells_at ((hb1.block _ (by omega)).trans HG.out) rfl;have q7:w1.cell? ⟨w.heap.size,7,none⟩=some (.int .i64 c.half):=cells_at ((hb1.block _ (by omega)).trans HG.out) rfl;have q8:w1.cell? ⟨w.heap.size,8,none⟩=some (.int .i64 0):=cells_at ((hb1.block _ (by omega)).trans HG.out) rfl;have q9:w1.cell? ⟨w.heap.size,9,none⟩=some (.slice ao la.length ca):=cells_at ((hb1.block _ (by omega)).trans HG.out) rfl;have q10:w1.cell? ⟨w.heap.size,10,none⟩=some (.slice jo 0 cj):=cells_at ((hb1.block _ (by omega)).trans HG.out) rfl;have q11:w1.cell? ⟨w.heap.size,11,none⟩=some (.int .i64 (-1)):=cells_at ((hb1.block _ (by omega)).trans HG.out) rfl;clear hb1)
  | (go_at_call 41;refine(show Calls _ _ _ _ _ from HSD.out _ HB1.out).mono ?_;rintro e w2 ⟨y,rfl,hb2⟩))
 go_ret2
 exact⟨⟨y,rfl⟩,HBW.out.trans (hb2.mono (by omega))⟩
end Go.Proofs.YtceoibfliggalaaGreatDoor
namespace Go.Proofs.YtceoibfliggalaaGreatDoor
open Go.RowKit Wd Tr Cg Ld Lg
theorem acs_own {W:World} {B:Nat} {ao:Option Addr} {l:List Ac} {cap:Nat} (h:W.ownsRow B 52 5 (.slice ao l.length cap) l.length (flatA l)):AcsAt W ao l:=by
 obtain⟨ao',cap',e,_,h0,h1⟩:=own_val h
 cases e
 cases ao with
 | none=>exact⟨0,0,fun hp=>by have:=(h0 rfl).1;omega,fun k n hn=>by have:=(List.getElem?_eq_some_iff.1 hn).1;have:=(h0 rfl).1;omega⟩
 | some a=>
  obtain⟨g,rfl,_,_⟩:=h1 a rfl
  refine⟨g,0,fun _=>rfl,fun k a ha=>?_⟩
  obtain⟨e0,e1,e2,e3,e4⟩:=flatA_at l k a ha
  have hc:=fun j u (hu:(flatA l)[j]?=some u)=>(show W.cell? ⟨g,0+j,none⟩=some u by have:=h.cells (g:=g) rfl j u hu;rwa [Addr.add_lit]at this)
  exact⟨hc _ _ e0,hc _ _ e1,hc _ _ e2,hc _ _ e3,hc _ _ e4⟩
set_option maxRecDepth 20000 in
set_option maxHeartbeats 2000000 in
theorem save_none {w:World} {x:Nat} {c:Cf} {now hd:Int} {la:List Ac} {P:Pt} (h:Ck w x c now hd la P) (hn:P.n=0) (hw:Wf (la.map plainAc)) (hl0:la≠ []) (hmany:la.length≤1000000) (hu:∀a∈la,Word a.us) (hnm:∀a∈la,a.nm.size≤maxLen) (hok:auditV (chkZ c) ⟨c,now,la,[],hd⟩=0) (hz:(stB ⟨c,now,la,[],hd⟩).length≤2200000000):
  Calls Tryz.prog 25 #[.pointer (some ⟨x,0,none⟩)] w fun e w'=>(∃B,e=.returned (.slice (some ⟨B,0,none⟩) (stB ⟨c,now,la,[],hd⟩).length (stB ⟨c,now,la,[],hd⟩).length)∧w.heap.size≤B∧w'.heap[B]?=some (.cells (Lib.byteCells (stB ⟨c,now,la,[],hd⟩)).toArray 5 (0,0)))∧Below w.heap.size w w':=by
 have hst:=state_none h hn hw hl0 hmany
 have HPUT:Hid (∀x,∀(ao:Option Addr) (ca g:Nat),x.ownsRow w.heap.size 52 5 (.slice ao la.length ca) la.length (flatA la)→Calls Tryz.prog 11 #[.agg (stC c now (.slice ao la.length ca) (.slice (some ⟨g,0,none⟩) 0 0) hd)] x fun e w'=>(∃B,e=.returned (.tuple #[.slice (some ⟨B,0,none⟩) (stB ⟨c,now,la,[],hd⟩).length (stB ⟨c,now,la,[],hd⟩).length,.int .i64 0])∧x.heap.size≤B∧w'.heap[B]?=some (.cells (Lib.byteCells (stB ⟨c,now,la,[],hd⟩)).toArray 5 (0,0)))∧Below x.heap.size x w'):=fun x ao ca g hrow=>by
  obtain⟨ao',cap',e,hcap,h0,_⟩:=own_val hrow
  cases e
  refine(put_any (ps:= []) (cj:=0) (jo:=some ⟨g,0,none⟩) c now hd ⟨acs_own hrow,fun n a ha=>hu a (List.mem_of_getElem? ha),hnm,by omega,hcap,fun e=>⟨List.length_eq_zero_iff.1 (h0 e).1,(h0 e).2⟩,⟨⟨0,0,fun hp=>by simp at hp,fun k j hj=>by simp at hj⟩,fun p hp=>absurd hp List.not_mem_nil⟩,by simp,Nat.le_refl _,nofun,fun p hp=>absurd hp List.not_mem_nil,fun p hp=>absurd hp List.not_mem_nil,fun p hp=>absurd hp List.not_mem_nil⟩ (by unfold wtN;show la.length+0+0≤_;omega) hz).mono fun e w' k=>?_
  unfold PutP at k
  exact⟨by have k1:=k.1;rwa [if_pos (show auditV (chkZ c) ⟨c,now,la,List.map Pj.v [],hd⟩=0 from hok)]at k1,k.2⟩
 clear h hn hw hl0 hmany hu hnm hok hz
 go_enter Tryz.func25,Tryz.ntmps25
 go_wp2_with (first
  | (go_at_call 44;refine(show Calls _ _ _ _ _ from hst).mono ?_;rintro e w1 ⟨u,g,rfl,hrow,hb1⟩;obtain⟨ao,ca,rfl,_,_,_⟩:=own_val hrow;have hput:=HPUT.out w1 ao ca g hrow;have HB1:Hid _:=hb1;have HPT:Hid _:=hput;clear hb1 hrow hput)
  | (go_at_call 11;refine(show Calls _ _ _ _ _ from HPT.out).mono ?_;rintro e w2 ⟨⟨B,rfl,hB,hG⟩,hb2⟩))
 go_ret
 have:=HB1.out.size
 exact⟨⟨B,rfl,by omega,hG⟩,HB1.out.trans (hb2.mono (by omega))⟩
end Go.Proofs.YtceoibfliggalaaGreatDoor

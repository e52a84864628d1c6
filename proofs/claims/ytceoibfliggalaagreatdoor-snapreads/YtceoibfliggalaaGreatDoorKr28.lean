/-
  TEXTS: NcA.
-/
import Derived.Test.YtceoibfliggalaaGreatDoorKr5
import Derived.Test.YtceoibfliggalaaGreatDoorKr26
import Derived.Test.YtceoibfliggalaaGreatDoorKr27
import Derived.Test.YtceoibfliggalaaGreatDoorKr11
import Derived.Deep.WholeRow
namespace Go.Proofs.YtceoibfliggalaaGreatDoor
open Go.RowKit Wd Tr Cg Ld
theorem drew_below' (w:World):Below w.heap.size w w.drew:=⟨rfl,rfl,rfl,Nat.le_refl _,fun _ _=>rfl⟩
def RowF (W:World) (b L:Nat) (f:Nat→Int):Prop:=∃cur,W.heap[b]?=some (.cells cur 50 (0,0))∧cur.size=L∧∀j,j<L→cur[j]?=some (.int .u64 (f j))
def updF (f:Nat→Int) (k:Nat) (x:Int):Nat→Int:=fun j=>if j=k then x else f j
section
variable {W W':World} {b L:Nat} {f:Nat→Int}
theorem RowF.cell (h:RowF W b L f) {j:Nat} (hj:j<L):W.cell? ⟨b,j,none⟩=some (.int .u64 (f j)):=by
 obtain⟨cur,h1,_,h3⟩:=h
 exact cells_at h1 (h3 j hj)
theorem RowF.free (h:RowF W b L f) (j:Nat):W.frozen? ⟨b,j,none⟩=false:=by
 obtain⟨cur,h1,_⟩:=h
 exact frozen_at h1
theorem RowF.lt (h:RowF W b L f):b<W.heap.size:=by
 obtain⟨cur,h1,_⟩:=h
 exact(Array.getElem?_eq_some_iff.1 h1).1
theorem RowF.same (h:RowF W b L f) (e:W'.heap[b]?=W.heap[b]?):RowF W' b L f:=by
 obtain⟨cur,h1,h2⟩:=h
 exact⟨cur,e.trans h1,h2⟩
theorem RowF.below (h:RowF W b L f) (e:Below W.heap.size W W'):RowF W' b L f:=h.same (e.block b h.lt)
theorem RowF.set (h:RowF W b L f) (k:Nat) (x:Int):RowF (W.setCell ⟨b,k,none⟩ (.int .u64 x)) b L (updF f k x):=by
 obtain⟨cur,h1,h2,h3⟩:=h
 refine⟨_,heap_setCell_same W b k cur _ _ h1,by simpa using h2,fun j hj=>?_⟩
 unfold updF
 by_cases e:j=k
 ·subst e
  rw [if_pos rfl]
  simp [h2,hj]
 ·rw [if_neg e,Array.getElem?_setIfInBounds_ne (fun x=>e x.symm)]
  exact h3 j hj
theorem RowF.congr {f':Nat→Int} (h:RowF W b L f) (e:∀j,j<L→f j=f' j):RowF W b L f':=by
 obtain⟨cur,h1,h2,h3⟩:=h
 exact⟨cur,h1,h2,fun j hj=>by rw [← e j hj];exact h3 j hj⟩
end
theorem Tryz.infU:(Tryz.prog.info? 50).map (fun i=>(i.zero,i.size,i.bytes))=some (some (.int .u64 0),1,8):=by kernel_rfl
theorem make_u64 (w:World) {L:Nat} (hL:L≤64):∃w',(Instr.makeSlice 126 (.int .i64 (L:Int)) (.int .i64 (L:Int))).run Tryz.prog w=.ok (.slice (some ⟨w.heap.size,0,none⟩) L L) w'∧RowF w' w.heap.size L (fun _=>0)∧Below w.heap.size w w'∧w'.heap.size=w.heap.size+1:=by
 obtain⟨i0,hi0,hz0,hz1,hz2⟩:=info_parts Tryz.infU
 have hmk:=run_makeSlice (P:=Tryz.prog) w 126 50 i0 _ Tryz.underlying126 hi0 hz0 .i64 .i64 (L:Int) (L:Int) (by omega) (Int.le_refl _) (by rw [hz1];simp;omega) (by rw [hz2];omega) (by omega)
 simp only [Int.toNat_natCast,hz1]at hmk
 refine⟨_,hmk,⟨_,heap_alloc_new w _,by simp [madeCells],fun k hk=>?_⟩,(Below.refl _ _).alloc (Nat.le_refl _) _,by simp⟩
 rw [show (Value.int .u64 0).cells= #[.int .u64 0]from rfl]
 simp [madeCells,hk,Nat.mod_one]
theorem RowF.setAt {w:World} {b L:Nat} {f f':Nat→Int} (h:RowF w b L f) {k:Nat} {x:Int} (hx:f' k=x) (ho:∀j,j<L→j≠k→f' j=f j):RowF (w.setCell ⟨b,k,none⟩ (.int .u64 x)) b L f':=
 (h.set k x).congr (fun j hj=>by
  unfold updF
  by_cases e:j=k
  ·rw [if_pos e,e,hx]
  ·rw [if_neg e,ho j hj e])
def usL (la:List Ac):List Int:=la.map Ac.us
theorem us_len (la:List Ac):(usL la).length=la.length:=by simp [usL]
def usF (la:List Ac) (j:Nat):Int:=match la[j]? with
 | some a=>a.us
 | none=>0
set_option maxRecDepth 20000 in
set_option maxHeartbeats 1000000 in
theorem usagesOf_any {w:World} {ao:Option Addr} {la:List Ac} {ca:Nat} (hA:AcsAt w ao la) (hl:la.length≤64):
  Calls Tryz.prog 92 #[.slice ao la.length ca] w fun e w'=>e=.returned (.slice (some ⟨w.heap.size,0,none⟩) la.length la.length)∧RowF w' w.heap.size la.length (usF la)∧Below w.heap.size w w':=by
 obtain⟨w1,hmk,hR1,b1,hz1⟩:=make_u64 w hl
 obtain⟨g,o,hg,hc⟩:=hA
 obtain⟨n,hn⟩:∃n,la.length=n:=⟨_,rfl⟩
 rw [hn]at hmk hR1 hl hg ⊢
 have HN:Hid _:=hn
 have HC0:Hid (RowF w1 w.heap.size n (fun j=>if j<0 then usF la j else 0)∧Below w.heap.size w w1):=⟨hR1.congr (fun j _=>by simp),b1⟩
 have HAT:Hid _:=hc
 have HGO:Hid _:=hg
 clear hR1 b1 hn hc hg
 go_enter Tryz.func92,Tryz.ntmps92
 go_wp2
 clear hmk
 go_loopg [4,5,11] n (fun gk u u2 p wr=>∃(k:Nat),k+gk=n∧p=.int .i64 k∧RowF wr w.heap.size n (fun j=>if j<k then usF la j else 0)∧Below w.heap.size w wr)
 case atStart=>exact⟨0,by omega,rfl,HC0.out⟩
 case round=>
  obtain⟨k,hk,rfl,hR,bR⟩:=hrel
  by_cases hlt:k<n
  ·have hlt':(k:Int)<n:=by omega
   obtain⟨a,ha⟩:∃a,la[k]?=some a:=⟨_,List.getElem?_eq_getElem (by rw [HN.out];exact hlt)⟩
   have eao:=HGO.out (by omega)
   subst eao
   have hAt:=(HAT.out k a ha).below bR
   obtain⟨a0,a1,a2,a3,a4⟩:=hAt
   obtain⟨W2,hW2⟩:∃W2,wr.alloc (.cells #[.string a.nm,.int .i64 a.pa,.int .i64 a.sh,.bool a.cl,.int .u64 a.us] 52)=W2:=⟨_,rfl⟩
   have b2:Below wr.heap.size wr W2:=by rw [← hW2];exact(Below.refl _ _).alloc (Nat.le_refl _) _
   have hG2:W2.heap[wr.heap.size]?=some (.cells #[.string a.nm,.int .i64 a.pa,.int .i64 a.sh,.bool a.cl,.int .u64 a.us] 52 (0,0)):=by rw [← hW2];exact heap_alloc_new wr _
   have k4:W2.cell? ⟨wr.heap.size,4,none⟩=some (.int .u64 a.us):=cells_at hG2 rfl
   have hR2:=hR.below b2
   have cf:=hR2.cell hlt
   have ff:=hR2.free k
   have eu:usF la k=a.us:=by unfold usF;rw [ha]
   have hR3:RowF (W2.setCell ⟨w.heap.size,k,none⟩ (.int .u64 a.us)) w.heap.size n (fun j=>if j<k+1 then usF la j else 0):=hR2.setAt (by simp [eu]) (fun j _ hne=>by
    by_cases h1:j<k
    ·rw [if_pos h1,if_pos (by omega)]
    ·rw [if_neg h1,if_neg (by omega)])
   have b3:Below w.heap.size w (W2.setCell ⟨w.heap.size,k,none⟩ (.int .u64 a.us)):=(bR.trans (b2.mono bR.size)).setCell (p:=⟨w.heap.size,k,none⟩) (Nat.le_refl _) _
   have HR3:Hid _:=hR3
   have HB3:Hid _:=b3
   clear hR hR2 hR3 b3 b2 bR hG2 eu ha
   go_wp2
   go_roundg (n - (k+1))
   case measure=>omega
   case rel=>exact⟨k+1,by omega,by go_num,HR3.out,HB3.out⟩
  ·have hlt':¬(k:Int)<n:=by omega
   obtain rfl:k=n:=by omega
   have HR:Hid (RowF wr w.heap.size k (usF la)):=hR.congr (fun j hj=>by rw [if_pos hj])
   have HB:Hid _:=bR
   clear hR bR
   go_wp2
   go_ret
   exact⟨rfl,HR.out,HB.out⟩
def coreC (c:Cf) (now:Int) (t d:Nat) (jo:Option Addr) (n cap:Nat) (hd:Int) (wm a b:Nat):Array Value:= #[.int .i64 c.nodes,.int .i64 c.queue,.int .i64 c.limit,.int .i64 c.age,.int .i64 c.fair,.int .i64 c.size,.int .i64 c.period,.int .i64 c.half,.int .i64 now,.pointer (some ⟨t,0,none⟩),.pointer (some ⟨d,0,none⟩),.slice jo n cap,.int .i64 hd,.map (some wm),.pointer (some ⟨a,0,none⟩),.pointer (some ⟨b,0,none⟩)]
def stC (c:Cf) (now:Int) (av jv:Value) (hd:Int):Array Value:= #[.int .i64 c.nodes,.int .i64 c.queue,.int .i64 c.limit,.int .i64 c.age,.int .i64 c.fair,.int .i64 c.size,.int .i64 c.period,.int .i64 c.half,.int .i64 now,av,jv,.int .i64 hd]
def LedS (W:World) (d:Nat) (c:Cf) (us:List Int):Prop:=∃v,Lr.Led c.nodes (Lr.facZ c) 0 W d v us
theorem LedS.below {W W':World} {d:Nat} {c:Cf} {us:List Int} (h:LedS W d c us) (b:Below W.heap.size W W'):LedS W' d c us:=by
 obtain⟨v,h1⟩:=h
 exact⟨v,(b.block d (h1.lk_lt d (.inl rfl))).trans h1.blk,row_of h1.row (fun j hj=>b.block j (h1.lk_lt j (.inr hj))),h1.lo,h1.wds,h1.few⟩
structure Pt where
 t:Nat
 d:Nat
 jo:Option Addr
 n:Nat
 cap:Nat
 wm:Nat
 a:Nat
 b:Nat
structure Ck (W:World) (x:Nat) (c:Cf) (now hd:Int) (la:List Ac) (P:Pt):Prop where
 blk:W.heap[x]?=some (.cells (coreC c now P.t P.d P.jo P.n P.cap hd P.wm P.a P.b) 137 (0,0))
 tree:Tree (fun _=>True) W P.t (la.map plainAc) (kidB (la.map plainAc))
 led:LedS W P.d c (usL la)
section
variable {w W':World} {x:Nat} {c:Cf} {now hd:Int} {la:List Ac} {P:Pt}
theorem Ck.xlt (h:Ck w x c now hd la P):x<w.heap.size:=(Array.getElem?_eq_some_iff.1 h.blk).1
theorem Ck.cell (h:Ck w x c now hd la P) {k:Nat} {v:Value} (hv:(coreC c now P.t P.d P.jo P.n P.cap hd P.wm P.a P.b)[k]?=some v):w.cell? ⟨x,k,none⟩=some v:=cells_at h.blk hv
theorem Ck.below (h:Ck w x c now hd la P) (b:Below w.heap.size w W'):Ck W' x c now hd la P:=⟨(b.block x h.xlt).trans h.blk,h.tree.below b,h.led.below b⟩
theorem tlist {S:Nat→Prop} {t:Nat} {l:List Ac} (h:Tree S w t l (kidB l)) (hw:Wf l):Calls Tryz.prog 43 #[.pointer (some ⟨t,0,none⟩)] w fun e w'=>∃v,e=.returned v∧w'.ownsRow w.heap.size 52 5 v l.length (flatA l)∧Below w.heap.size w w':=by
 obtain⟨v,m,kv,ks,h1,h2⟩:=h
 exact plist_any h1 (by have:=hw.len;omega) (fun e=>by have:=hw.pos;rw [e]at this;simp at this)
end
theorem flatA_us:∀(l:List Ac) (n:Nat) (a:Ac) (x:Int),l[n]?=some a→(flatA l).set (n*5+4) (.int .u64 x)=flatA (l.set n {a with us:=x})
 | [],n,a,x,h=>by simp at h
 | b::l,0,a,x,h=>by simp at h;subst h;rfl
 | b::l,n+1,a,x,h=>by
  have:=flatA_us l n a x (by simpa using h)
  rw [show (n+1)*5+4=n*5+4+1+1+1+1+1 by omega]
  simp only [flatA,List.set_cons_succ,this]
def mixL (la:List Ac) (k:Nat):List Ac:=la.take k++(la.drop k).map plainAc
theorem mix_zero (la:List Ac):mixL la 0=la.map plainAc:=by simp [mixL]
theorem mix_all (la:List Ac):mixL la la.length=la:=by simp [mixL]
theorem mix_at {la:List Ac} {k:Nat} {a:Ac} (h:la[k]?=some a):(mixL la k)[k]?=some (plainAc a):=by
 have hk:=(List.getElem?_eq_some_iff.1 h).1
 unfold mixL
 rw [List.getElem?_append_right (by simp;omega),List.length_take,Nat.min_eq_left (by omega),Nat.sub_self,List.getElem?_map,List.getElem?_drop,Nat.add_zero,h]
 rfl
theorem mix_next {la:List Ac} {k:Nat} {a:Ac} (h:la[k]?=some a):(mixL la k).set k a=mixL la (k+1):=by
 have hk:=(List.getElem?_eq_some_iff.1 h).1
 have e:la.drop k=a::la.drop (k+1):=by rw [List.drop_eq_getElem_cons hk,(List.getElem?_eq_some_iff.1 h).2]
 unfold mixL
 rw [List.set_append_right _ _ (by simp;omega),List.length_take,Nat.min_eq_left (by omega),Nat.sub_self,e,List.map_cons,List.set_cons_zero,List.take_add_one,h]
 simp
theorem row_put {W:World} {B t size g n cap:Nat} {xs:List Value} (h:W.ownsRow B t size (.slice (some ⟨g,0,none⟩) n cap) n xs) (k:Nat) (v:Value):(W.setCell ⟨g,k,none⟩ v).ownsRow B t size (.slice (some ⟨g,0,none⟩) n cap) n (xs.set k v):=by
 rcases h.2 with⟨e,_⟩ | ⟨g',cp,cur,e,hb,hg,h1,h2,h3,h4⟩
 ·injection e with e1
  cases e1
 ·injection e with e1 e2 e3
  injection e1 with e1
  injection e1 with e1
  subst e1
  subst e3
  have e5:=heap_setCell_same W g k cur t v hg
  refine⟨by rw [List.length_set];exact h.1,.inr ⟨g,cap,_,rfl,hb,e5,h1,h2,by simpa using h3,?_⟩⟩
  rw [Array.toList_setIfInBounds,List.take_set,h4]
theorem led_own {w:World} {d:Nat} {c:Cf} {us:List Int} (h:LedS w d c us) (a:Int):Calls Tryz.prog 175 #[.pointer (some ⟨d,0,none⟩),.int .i64 a] w fun e w'=>e=.returned (.int .u64 (Lr.Lg.ownV us a))∧w'=w:=by
 obtain⟨v,h1⟩:=h
 exact Lr.own_any h1 a
theorem res_cell {f:Func} {r:Nat} {t:TypeId} {tm:Array Value} {a:Addr} {W:World} {v:Value} (hf:f.results= #[ResultVar.cell r t]) (ht:tm[r]?=some (.pointer (some a))) (hl:(loadVar t a).run Tryz.prog W=.ok v W):(results f tm).run Tryz.prog W=.ok v W:=by
 simp [results,hf,ht,asAddr,hl]
theorem chg_row {K:Nat→Prop} {w W:World} (c:Chg K w W) {b:Nat} (hb:K b∨w.heap.size≤b) (cs:Array Value):Chg K w (W.setRow b cs):=
 ⟨c.os,c.tape,c.output,Nat.le_trans c.size (by simp [World.setRow]),fun i hi hK=>(setRow_other W b i cs (fun e=>by subst e;rcases hb with hb | hb;exact hK hb;omega)).trans (c.block i hi hK)⟩
section
variable {w:World} {x:Nat} {c:Cf} {now hd:Int} {la:List Ac} {P:Pt}
set_option maxRecDepth 20000 in
set_option maxHeartbeats 4000000 in
theorem accountsUsed_any (h:Ck w x c now hd la P) (hw:Wf (la.map plainAc)) (hl0:la≠ []) (hmany:la.length≤1000000):
  Calls Tryz.prog 145 #[.pointer (some ⟨x,0,none⟩)] w fun e w'=>∃u,e=.returned u∧w'.ownsRow w.heap.size 52 5 u la.length (flatA la)∧Below w.heap.size w w':=by
 have hlist:=tlist h.tree hw
 rw [List.length_map]at hlist
 have x9:w.cell? ⟨x,9,none⟩=some (.pointer (some ⟨P.t,0,none⟩)):=h.cell rfl
 have hmx:=mix_zero la
 obtain⟨q,hq⟩:∃q,la.length=q:=⟨_,rfl⟩
 have hq0:0<q:=by cases la with | nil=>exact absurd rfl hl0 | cons=>rw [← hq];simp
 rw [hq]at hlist hmany ⊢
 have H:Hid _:=h
 have HX:Hid _:=hmx
 have HQ:Hid _:=hq
 clear h hmx hq hw hl0
 go_enter Tryz.func145,Tryz.ntmps145
 go_wp2_with (go_at_call 43;refine hlist.mono ?_;rintro e w1 ⟨v1,rfl,hrow,b1⟩;rw [← HX.out]at hrow;obtain⟨g,cap,rfl,hg0⟩:∃g cap,v1=.slice (some ⟨g,0,none⟩) q cap∧w.heap.size≤g:=(by
  rcases hrow.2 with⟨_,h0⟩ | ⟨g,cp,cur,e,hb,_⟩
  ·omega
  ·exact ⟨g,cp,e,hb⟩))
 have HR:Hid _:=hrow
 have HB:Hid _:=b1
 clear hrow b1
 go_loopg [4,12] q (fun gk u p wr=>∃(k:Nat),k+gk=q∧p=.int .i64 k∧wr.ownsRow w.heap.size 52 5 (.slice (some ⟨g,0,none⟩) q cap) q (flatA (mixL la k))∧Below w.heap.size w wr)
 case atStart=>exact⟨0,by omega,rfl,HR.out,HB.out⟩
 case round=>
  obtain⟨k,hk,rfl,hr2,b2⟩:=hrel
  by_cases hlt:k<q
  ·have hlt':(k:Int)<q:=by omega
   obtain⟨a,ha⟩:∃a,la[k]?=some a:=⟨_,List.getElem?_eq_getElem (by rw [HQ.out];exact hlt)⟩
   have h2:=H.out.below b2
   have x10:wr.cell? ⟨x,10,none⟩=some (.pointer (some ⟨P.d,0,none⟩)):=h2.cell rfl
   have hown:=led_own h2.led (k:Int)
   have eu:Lr.Lg.ownV (usL la) (k:Int)=a.us:=Lr.own_of (by unfold usL;rw [List.getElem?_map,ha];rfl)
   rw [eu]at hown
   obtain⟨cg,fz⟩:(∃v,wr.cell? ⟨g,k*5+4,none⟩=some v)∧wr.frozen? ⟨g,k*5+4,none⟩=false:=by
    rcases hr2.2 with⟨e,_⟩ | ⟨g',cp,cur,e,hb,hg,h1,h2,h3,h4⟩
    ·cases e
    ·injection e with e1 e2 e3
     injection e1 with e1
     injection e1 with e1
     subst e1
     have e0:=(flatA_at (mixL la k) k _ (mix_at ha)).2.2.2.2
     rw [← h4,List.getElem?_take_of_lt (by omega),Array.getElem?_toList]at e0
     exact⟨⟨_,cells_at hg e0⟩,frozen_at hg⟩
   obtain⟨cv,cg⟩:=cg
   have hr3:=row_put hr2 (k*5+4) (.int .u64 a.us)
   rw [flatA_us _ k _ a.us (mix_at ha)]at hr3
   have ea:{plainAc a with us:=a.us}=a:=rfl
   rw [ea,mix_next ha]at hr3
   have HR3:Hid _:=hr3
   have b3:Below w.heap.size w (wr.setCell ⟨g,k*5+4,none⟩ (.int .u64 a.us)):=b2.setCell (p:=⟨g,k*5+4,none⟩) hg0 _
   have HB3:Hid _:=b3
   clear hr2 b2 h2 hr3 b3 ha eu
   go_wp2_with (go_at_call 175;refine hown.mono ?_;rintro e w3 ⟨rfl,rfl⟩)
   go_roundg (q - (k+1))
   case measure=>omega
   case rel=>exact⟨k+1,by omega,by go_num,HR3.out,HB3.out⟩
  ·have hlt':¬(k:Int)<q:=by omega
   obtain rfl:k=q:=by omega
   rw [← HQ.out,mix_all]at hr2
   have HR2:Hid _:=hr2
   have HB2:Hid _:=b2
   clear hr2 b2
   go_wp2
   go_ret
   rw [← HQ.out]
   exact⟨_,rfl,HR2.out,HB2.out⟩
theorem Tryz.infS:(Tryz.prog.info? 27).map (·.size)=some 12:=by kernel_rfl
theorem load_st {W:World} {b:Nat} {cs:Array Value} (h:W.heap[b]?=some (.cells cs 27 (0,0))) (hs:cs.size=12):(loadVar 27 ⟨b,0,none⟩).run Tryz.prog W=.ok (.agg cs) W:=by
 refine run_loadVar_row W b 27 27 cs (0,0) _ h Tryz.underlying27 rfl ?_
 rw [hs];exact Tryz.infS
theorem ret_st {f:Func} {r:Nat} {a:Act} {W:World} {b:Nat} {old cs:Array Value} {R:Ending→World→Prop} (hf:f.results= #[ResultVar.cell r 27]) (ht:a.tmps[r]?=some (.pointer (some ⟨b,0,none⟩))) (hd:a.defers= []) (hg:W.heap[b]?=some (.cells old 27 (0,0))) (hs:cs.size=12) (hR:R (.returned (.agg cs)) (W.setRow b cs)):bodyPost Tryz.prog f R .ret a (W.setRow b cs):=
 bodyPost_ret (v:=.agg cs) (res_cell hf ht (load_st (setRow_heap W b old cs _ _ hg) hs)) hd hR
structure XrB (x g:Nat) (A:Array Value) (w0 v:World):Prop where
 a:v.heap[x]?=some (.cells A 137 (0,0))
 r:v.heap[g]?=w0.heap[g]?
set_option maxRecDepth 20000 in
set_option maxHeartbeats 4000000 in
theorem seen_any (h:Ck w x c now hd la P) (hw:Wf (la.map plainAc)) (hl0:la≠ []) (hmany:la.length≤1000000):
  Calls Tryz.prog 102 #[.pointer (some ⟨x,0,none⟩)] w fun e w'=>∃u,e=.returned (.agg (stC c now u (.slice P.jo P.n P.cap) hd))∧w'.ownsRow (w.heap.size+1) 52 5 u la.length (flatA la)∧Below w.heap.size w w':=by
 obtain⟨W,hW⟩:∃W,w.alloc (.cells #[.int .i64 0,.int .i64 0,.int .i64 0,.int .i64 0,.int .i64 0,.int .i64 0,.int .i64 0,.int .i64 0,.int .i64 0,.slice none 0 0,.slice none 0 0,.int .i64 0] 27)=W:=⟨_,rfl⟩
 have bW:Below w.heap.size w W:=by rw [← hW];exact(Below.refl _ _).alloc (Nat.le_refl _) _
 have hzW:W.heap.size=w.heap.size+1:=by rw [← hW];simp
 have hG:W.heap[w.heap.size]?=some (.cells #[.int .i64 0,.int .i64 0,.int .i64 0,.int .i64 0,.int .i64 0,.int .i64 0,.int .i64 0,.int .i64 0,.int .i64 0,.slice none 0 0,.slice none 0 0,.int .i64 0] 27 (0,0)):=by rw [← hW];exact heap_alloc_new w _
 have hz:=(h.below bW).below (drew_below' W)
 have hacc:=accountsUsed_any hz hw hl0 hmany
 have hxl:=h.xlt
 have T0:XrB x x _ W.drew W.drew:=⟨hz.blk,rfl⟩
 have HZ:Hid _:=hz
 have HT0:Hid _:=T0
 have HB:Hid _:=bW
 have HG:Hid (W.drew.heap[w.heap.size]?=some (.cells #[.int .i64 0,.int .i64 0,.int .i64 0,.int .i64 0,.int .i64 0,.int .i64 0,.int .i64 0,.int .i64 0,.int .i64 0,.slice none 0 0,.slice none 0 0,.int .i64 0] 27 (0,0))):=hG
 have HZW:Hid (W.drew.heap.size=w.heap.size+1):=hzW
 clear h hz T0 bW hG hzW hw hl0 hmany
 unfold stC
 go_enter Tryz.func102,Tryz.ntmps102
 go_upto_region 1 with fail
 refine wp_region_last (S:=(XrB x x (coreC c now P.t P.d P.jo P.n P.cap hd P.wm P.a P.b) W.drew)) (L:=99) (by kernel_rfl) ?_
 have HSW0:(XrB x x (coreC c now P.t P.d P.jo P.n P.cap hd P.wm P.a P.b) W.drew) (W.drew):=HT0.out
 have HF:Hid (∀xx:World,(XrB x x (coreC c now P.t P.d P.jo P.n P.cap hd P.wm P.a P.b) W.drew) xx→xx.cell? ⟨x,0,none⟩=some (.int .i64 c.nodes)∧xx.cell? ⟨x,1,none⟩=some (.int .i64 c.queue)∧xx.cell? ⟨x,2,none⟩=some (.int .i64 c.limit)∧xx.cell? ⟨x,3,none⟩=some (.int .i64 c.age)∧xx.cell? ⟨x,4,none⟩=some (.int .i64 c.fair)∧xx.cell? ⟨x,5,none⟩=some (.int .i64 c.size)∧xx.cell? ⟨x,6,none⟩=some (.int .i64 c.period)∧xx.cell? ⟨x,7,none⟩=some (.int .i64 c.half)∧xx.cell? ⟨x,8,none⟩=some (.int .i64 now)∧xx.cell? ⟨x,11,none⟩=some (.slice P.jo P.n P.cap)∧xx.cell? ⟨x,12,none⟩=some (.int .i64 hd)∧True):=fun xx hSx=>⟨cells_at hSx.a rfl,cells_at hSx.a rfl,cells_at hSx.a rfl,cells_at hSx.a rfl,cells_at hSx.a rfl,cells_at hSx.a rfl,cells_at hSx.a rfl,cells_at hSx.a rfl,cells_at hSx.a rfl,cells_at hSx.a rfl,cells_at hSx.a rfl,trivial⟩
 refine tk 0 HSW0 (h:=?_)
 refine tk 1 HSW0 (h:=?_)
 refine tk 2 HSW0 (h:=?_)
 refine tk 3 HSW0 (h:=?_)
 refine tk 4 HSW0 (h:=?_)
 refine tk 5 HSW0 (h:=?_)
 refine tk 6 HSW0 (h:=?_)
 refine tk 7 HSW0 (h:=?_)
 refine tk 8 HSW0 (h:=?_)
 refine tk 10 HSW0 (h:=?_)
 refine tk 11 HSW0 (h:=?_)
 refine tk 12 HSW0 (h:=?_)
 refine tk 13 HSW0 (h:=?_)
 refine tk 14 HSW0 (h:=?_)
 refine tk 15 HSW0 (h:=?_)
 refine tk 16 HSW0 (h:=?_)
 refine tk 17 HSW0 (h:=?_)
 refine last_one (i:=9) (by kernel_rfl) rfl ?_
 intro K hK
 go_simp
 go_at_call 145
 refine(hacc).mono ?_
 rintro e w1 ⟨u1,rfl,hrow,b1⟩
 have HG1:Hid _:=(b1.block _ (by rw [HZW.out];omega)).trans HG.out
 obtain⟨ua,uc,rfl⟩:=sl_shape hrow
 have HSw1:(XrB x x (coreC c now P.t P.d P.jo P.n P.cap hd P.wm P.a P.b) W.drew) w1:=⟨(b1.block x HZ.out.xlt).trans HZ.out.blk,b1.block x HZ.out.xlt⟩
 go_simp
 refine hK.out _ _ (fun _=>HSw1) (fun _=>?_)
 clear hK K HSW0
 refine tk 18 HSw1 (h:=?_)
 refine last_one (i:=19) (by kernel_rfl) rfl ?_
 intro K hK
 rw [if_pos (by rfl)]
 refine wp_store_row 27 (.tmp 2) (.tmp 21) rfl w.heap.size (stC c now (.slice ua la.length uc) (.slice P.jo P.n P.cap) hd) (by simp [Act.eval]) (by simp [Act.eval,stC]) 27 _ HG1.out Tryz.infS rfl (by simp [stC,Value.oneCell']) ?_
 refine hK.out _ _ (fun _=>⟨(setRow_other _ _ x _ (by omega)).trans (HSw1).a,(setRow_other _ _ x _ (by omega)).trans (HSw1).r⟩) (fun _=>?_)
 clear hK K
 refine last_done (by kernel_rfl) ?_ _
 go_wp2
 refine ret_st Tryz.results102 rfl rfl HG1.out rfl ⟨_,rfl,?_,?_⟩
 ·rw [HZW.out]at hrow
  exact row_of hrow (fun j hj=>setRow_other _ _ j _ (by have:=(hrow.lt j hj).1;omega))
 ·have hzw:=HZW.out
  have hs1:=b1.size
  exact Chg.below (chg_row (K:=fun k=>k=w.heap.size) (Chg.refl _ w1) (.inl rfl) _) ((HB.out.trans ((drew_below' W).mono HB.out.size)).trans (b1.mono (by omega))) (by omega) (fun i hi=>by omega)
end
end Go.Proofs.YtceoibfliggalaaGreatDoor

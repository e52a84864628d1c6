/-
  TEXTS: SrA, SrC, SrD, SrE, SrB, SrF, SrH.
-/
import Derived.Test.YtceoibfliggalaaGreatDoorKr33
import Derived.Test.YtceoibfliggalaaGreatDoorKr11
import Derived.Deep.LoopGhost
import Derived.Deep.RegionHeld3
import Derived.Deep.QuietTactic
import Derived.Deep.CutBlock
import Derived.Deep.DeepCutAuto
namespace Go.Proofs.YtceoibfliggalaaGreatDoor
open Go.RowKit Wd Tr Cg Lg
structure Slx where
 so:Nat→Option Addr
 sl:Nat→Nat
 sc:Nat→Nat
def flatE (S:Slx):List Ev→List Value
 | []=> []
 | e::l=>.int .i64 e.tm::.bool e.tk::.slice (S.so e.jx) (S.sl e.jx) (S.sc e.jx)::flatE S l
theorem flatE_len (S:Slx):∀l:List Ev,(flatE S l).length=l.length*3
 | []=>rfl
 | p::l=>by simp only [flatE,List.length_cons,flatE_len S l];omega
theorem flatE_app (S:Slx):∀l m:List Ev,flatE S (l++m)=flatE S l++flatE S m
 | [],m=>rfl
 | p::l,m=>by simp only [List.cons_append,flatE,flatE_app S l m]
theorem flatE_at (S:Slx):∀(l:List Ev) (k:Nat) (p:Ev),l[k]?=some p→(flatE S l)[k*3]?=some (.int .i64 p.tm)∧(flatE S l)[k*3+1]?=some (.bool p.tk)∧(flatE S l)[k*3+2]?=some (.slice (S.so p.jx) (S.sl p.jx) (S.sc p.jx))
 | [],k,p,h=>by simp at h
 | q::l,0,p,h=>by simp at h;subst h;exact⟨rfl,rfl,rfl⟩
 | q::l,k+1,p,h=>by
  have h1:=flatE_at S l k p (by simpa using h)
  rw [show (k+1)*3=k*3+1+1+1 by omega]
  simpa only [flatE,List.getElem?_cons_succ]using h1
theorem flatE_set (S:Slx):∀(l:List Ev) (r:List Value) (k:Nat) (p:Ev),k<l.length→(((flatE S l++r).set (k*3) (.int .i64 p.tm)).set (k*3+1) (.bool p.tk)).set (k*3+2) (.slice (S.so p.jx) (S.sl p.jx) (S.sc p.jx))=flatE S (l.set k p)++r
 | [],r,k,p,h=>by simp at h
 | q::l,r,0,p,_=>rfl
 | q::l,r,k+1,p,h=>by
  have h1:=flatE_set S l r k p (by simpa using h)
  rw [show (k+1)*3=k*3+1+1+1 by omega]
  simp only [flatE,List.cons_append,List.set_cons_succ,h1]
theorem flatE_one (S:Slx):∀(l:List Ev),∀v∈flatE S l,v.oneCell'=true
 | [],v,h=>by simp [flatE]at h
 | p::l,v,h=>by
  simp only [flatE,List.mem_cons]at h
  rcases h with h | h | h | h
  ·subst h;rfl
  ·subst h;rfl
  ·subst h;rfl
  ·exact flatE_one S l v h
def RwE (S:Slx) (W:World) (b:Nat) (D:List Ev) (r:List Value):Prop:=W.heap[b]?=some (.cells (flatE S D++r).toArray 153 (0,0))
section
variable {S:Slx} {W W':World} {b:Nat} {D:List Ev} {r:List Value}
theorem RwE.lt (h:RwE S W b D r):b<W.heap.size:=(Array.getElem?_eq_some_iff.1 (show W.heap[b]?=_ from h)).1
theorem RwE.free (h:RwE S W b D r) (k:Nat):W.frozen? ⟨b,k,none⟩=false:=frozen_at (show W.heap[b]?=_ from h)
theorem RwE.at (h:RwE S W b D r) {k:Nat} {p:Ev} (ha:D[k]?=some p):W.cell? ⟨b,k*3,none⟩=some (.int .i64 p.tm)∧W.cell? ⟨b,k*3+1,none⟩=some (.bool p.tk)∧W.cell? ⟨b,k*3+2,none⟩=some (.slice (S.so p.jx) (S.sl p.jx) (S.sc p.jx)):=by
 have hb:W.heap[b]?=_:=h
 obtain⟨e0,e1,e2⟩:=flatE_at S D k p ha
 have ap:∀ {i:Nat} {v:Value},(flatE S D)[i]?=some v→(flatE S D++r).toArray[i]?=some v:=by
  intro i v e
  have:=(List.getElem?_eq_some_iff.1 e).1
  rw [List.getElem?_toArray,List.getElem?_append_left this]
  exact e
 exact⟨cells_at hb (ap e0),cells_at hb (ap e1),cells_at hb (ap e2)⟩
theorem RwE.below (c:Below W.heap.size W W') (h:RwE S W b D r):RwE S W' b D r:=(c.block b h.lt).trans h
theorem RwE.set (h:RwE S W b D r) (k:Nat) (p:Ev) (hk:k<D.length):RwE S (((W.setCell ⟨b,k*3,none⟩ (.int .i64 p.tm)).setCell ⟨b,k*3+1,none⟩ (.bool p.tk)).setCell ⟨b,k*3+2,none⟩ (.slice (S.so p.jx) (S.sl p.jx) (S.sc p.jx))) b (D.set k p) r:=by
 have h1:=heap_setCell_same W b (k*3) _ 153 (.int .i64 p.tm) h
 have h2:=heap_setCell_same (W.setCell ⟨b,k*3,none⟩ (.int .i64 p.tm)) b (k*3+1) _ 153 (.bool p.tk) h1
 have h3:=heap_setCell_same ((W.setCell ⟨b,k*3,none⟩ (.int .i64 p.tm)).setCell ⟨b,k*3+1,none⟩ (.bool p.tk)) b (k*3+2) _ 153 (.slice (S.so p.jx) (S.sl p.jx) (S.sc p.jx)) h2
 unfold RwE
 rw [h3]
 have e:=flatE_set S D r k p hk
 simp [← e]
end
theorem wrapN (n:Nat) (h:n≤140737488355328):wrap64 (n:Int)=(n:Int):=by unfold wrap64;omega
theorem wrapA (a b:Nat) (h:a+b≤140737488355328):wrap64 ((a:Int)+(b:Int))=((a+b:Nat):Int):=by unfold wrap64;omega
theorem iwrapA (a b:Nat) (h:a+b≤140737488355328):IntKind.i64.wrap ((a:Int)+(b:Int))=((a+b:Nat):Int):=by rw [IntKind.wrap_i64];omega
theorem iwrapS (a b:Nat) (h:b≤a) (h2:a≤140737488355328):IntKind.i64.wrap ((a:Int) - (b:Int))=((a - b:Nat):Int):=by rw [IntKind.wrap_i64];omega
theorem wrapS (a b:Nat) (h:b≤a) (h2:a≤140737488355328):wrap64 ((a:Int) - (b:Int))=((a - b:Nat):Int):=by unfold wrap64;omega
set_option maxHeartbeats 2000000 in
set_option maxRecDepth 20000 in
theorem swapRange_any {S:Slx} {w:World} {b n a c N cap:Nat} {r:List Value} {fv:Value} (P X M Y Q:List Ev) (hX:X.length=n) (hY:Y.length=n) (ha:P.length=a) (hc:P.length+n+M.length=c)
  (hN:(P++(X++(M++(Y++Q)))).length=N) (hsz:N≤1099511627776) (hR:RwE S w b (P++(X++(M++(Y++Q)))) r):
  Calls Tryz.prog 200 #[.slice (some ⟨b,0,none⟩) N cap,.int .i64 a,.int .i64 c,.int .i64 n,fv] w fun e w'=>e=.returned (.tuple #[])∧RwE S w' b (P++(Y++(M++(X++Q)))) r∧Chg (fun k=>k=b) w w':=by
 have hN':P.length+n+M.length+n+Q.length=N:=by simp at hN;omega
 have HALL:Hid (X.length=n∧Y.length=n∧P.length=a∧P.length+n+M.length=c∧P.length+n+M.length+n+Q.length=N∧N≤1099511627776):=⟨hX,hY,ha,hc,hN',hsz⟩
 have HR:Hid (RwE S w b (P++(X++(M++(Y++Q)))) r):=hR
 clear hX hY ha hc hN hN' hR hsz
 go_enter Tryz.func200,Tryz.ntmps200
 go_wp2
 go_loopg [10] n (fun gk v wr=>∃i:Nat,i+gk=n∧v=.int .i64 i∧RwE S wr b (P++(Y.take i++(X.drop i++(M++(X.take i++(Y.drop i++Q)))))) r∧Chg (fun k=>k=b) w wr)
 case atStart=>exact⟨0,by omega,rfl,by simpa using HR.out,Chg.refl _ _⟩
 case round=>
  obtain⟨i,hi,rfl,hrow,hchg⟩:=hrel
  have HROW:Hid (RwE S wr b (P++(Y.take i++(X.drop i++(M++(X.take i++(Y.drop i++Q)))))) r):=hrow
  have HCHG:Hid (Chg (fun k=>k=b) w wr):=hchg
  have HI:Hid (i+gk=n):=hi
  clear hrow hchg
  by_cases hlt:i<n
  ·obtain ⟨p,hp⟩:∃p,a+i=p:=⟨_,rfl⟩
   obtain⟨q,hq⟩:∃q,c+i=q:=⟨_,rfl⟩
   have HPQ:Hid (a+i=p∧c+i=q):=⟨hp,hq⟩
   obtain⟨e1,e2,e3,e4,e5,e6⟩:=HALL.out
   have wpb:a+i≤140737488355328:=by omega
   have wqb:c+i≤140737488355328:=by omega
   have HWP:Hid (IntKind.i64.wrap ((a:Int)+(i:Int))=(p:Int)):=by show IntKind.i64.wrap ((a:Int)+(i:Int))=(p:Int);rw [iwrapA a i wpb,hp]
   have HWQ:Hid (IntKind.i64.wrap ((c:Int)+(i:Int))=(q:Int)):=by show IntKind.i64.wrap ((c:Int)+(i:Int))=(q:Int);rw [iwrapA c i wqb,hq]
   clear wpb wqb
   have hpN:p<N:=by omega
   have hqN:q<N:=by omega
   have hpN':(p:Int)<N:=by omega
   have hqN':(q:Int)<N:=by omega
   have hlt':(i:Int)<n:=by omega
   have HSW:Hid (swapE (P++(Y.take i++(X.drop i++(M++(X.take i++(Y.drop i++Q)))))) p q=P++(Y.take (i+1)++(X.drop (i+1)++(M++(X.take (i+1)++(Y.drop (i+1)++Q)))))):=by
    have:=swap_range P X M Y Q n e1 e2 hlt
    rw [show P.length+n+M.length+i=q by omega,show P.length+i=p by omega]at this
    exact this
   have HL:Hid ((P++(Y.take i++(X.drop i++(M++(X.take i++(Y.drop i++Q)))))).length=N):=by
    show (P++(Y.take i++(X.drop i++(M++(X.take i++(Y.drop i++Q)))))).length=N
    simp;omega
   have HW1:Hid (wrap64 ((i:Int)+1)=((i+1:Nat):Int)):=by show wrap64 ((i:Int)+1)=((i+1:Nat):Int);unfold wrap64;omega
   clear hp hq e1 e2 e3 e4 e5 e6
   generalize P++(Y.take i++(X.drop i++(M++(X.take i++(Y.drop i++Q)))))=D at *
   obtain⟨x,hx⟩:∃x,D[p]?=some x:=⟨_,List.getElem?_eq_getElem (by rw [HL.out];exact hpN)⟩
   obtain⟨y,hy⟩:∃y,D[q]?=some y:=⟨_,List.getElem?_eq_getElem (by rw [HL.out];exact hqN)⟩
   have HX:Hid (D[p]?=some x):=hx
   have HY:Hid (D[q]?=some y):=hy
   obtain⟨x0,x1,x2⟩:=HROW.out.at hx
   obtain⟨y0,y1,y2⟩:=HROW.out.at hy
   have fz:=HROW.out.free
   have f0:=fz (p*3);have f1:=fz (p*3+1);have f2:=fz (p*3+2)
   clear fz hx hy
   have wp:=HWP.out
   have wq:=HWQ.out
   go_upto_region 3 with fail
   refine wp_region_last (S:=(fun _:World=>True)) (L:=99) (by kernel_rfl) ?_
   refine tk 0 trivial (h:=?_)
   refine tk 1 trivial (h:=?_)
   refine tk 2 trivial (h:=?_)
   refine tk 3 trivial (h:=?_)
   refine tk 4 trivial (h:=?_)
   refine tk 5 trivial (h:=?_)
   refine tk 6 trivial (h:=?_)
   refine tk 7 trivial (h:=?_)
   refine tk 8 trivial (h:=?_)
   refine tk 9 trivial (h:=?_)
   refine tk 10 trivial (h:=?_)
   refine tk 11 trivial (h:=?_)
   refine tk 12 trivial (h:=?_)
   refine tk 14 trivial (h:=?_)
   refine tk 15 trivial (h:=?_)
   refine tk 16 trivial (h:=?_)
   refine tk 17 trivial (h:=?_)
   refine tk 18 trivial (h:=?_)
   refine last_few (i:=13) (l:= [19]) (by kernel_rfl) (List.forall_mem_cons.2 ⟨⟨_,rfl,?h13n19⟩,List.forall_mem_cons.2 ⟨⟨_,rfl,?h19n19⟩,List.forall_mem_nil _⟩⟩)
   case h13n19=>
    intro K hK
    go_simp
    refine hK.out _ _ (fun _=>trivial) (fun _=>?_)
    clear hK K
    refine last_one (i:=19) (by kernel_rfl) rfl ?_
    intro K hK
    go_simp
    refine hK.out _ _ (fun _=>trivial) (fun _=>?_)
    clear hK K
    refine tk 20 trivial (h:=?_)
    refine last_one (i:=21) (by kernel_rfl) rfl ?_
    intro K hK
    go_simp
    obtain⟨V,hV⟩:∃V,(((wr.setCell ⟨b,p*3,none⟩ (.int .i64 y.tm)).setCell ⟨b,p*3+1,none⟩ (.bool y.tk)).setCell ⟨b,p*3+2,none⟩ (.slice (S.so y.jx) (S.sl y.jx) (S.sc y.jx))).drew=V:=⟨_,rfl⟩
    have HV:Hid (RwE S V b (D.set p y) r):=by show RwE S V b (D.set p y) r;rw [← hV];exact RwE.below (drew_below _) (RwE.set HROW.out p y (List.getElem?_eq_some_iff.1 HX.out).1)
    have CV:Hid (Chg (fun k=>k=b) wr V):=by show Chg (fun k=>k=b) wr V;rw [← hV];exact((((Chg.refl (fun k=>k=b) wr).setCell ⟨b,_,none⟩ _ (.inl rfl)).setCell ⟨b,_,none⟩ _ (.inl rfl)).setCell ⟨b,_,none⟩ _ (.inl rfl)).drew
    rw [hV]
    clear hV x0 x1 x2 y0 y1 y2 f0 f1 f2
    obtain⟨y',hy'⟩:∃y',(D.set p y)[q]?=some y':=⟨_,List.getElem?_eq_getElem (by rw [List.length_set];exact(List.getElem?_eq_some_iff.1 HY.out).1)⟩
    obtain⟨z0,z1,z2⟩:=HV.out.at hy'
    have g0:=HV.out.free (q*3)
    have g1:=HV.out.free (q*3+1)
    have g2:=HV.out.free (q*3+2)
    clear hy'
    refine hK.out _ _ (fun _=>trivial) (fun _=>?_)
    clear hK K
    refine tk 22 trivial (h:=?_)
    refine last_one (i:=23) (by kernel_rfl) rfl ?_
    intro K hK
    go_simp
    obtain⟨Z,hZ⟩:∃Z,((V.setCell ⟨b,q*3,none⟩ (.int .i64 x.tm)).setCell ⟨b,q*3+1,none⟩ (.bool x.tk)).setCell ⟨b,q*3+2,none⟩ (.slice (S.so x.jx) (S.sl x.jx) (S.sc x.jx))=Z:=⟨_,rfl⟩
    have HZ:Hid (RwE S Z b (swapE D p q) r):=by show RwE S Z b (swapE D p q) r;rw [← hZ,swapE_at HX.out HY.out];exact RwE.set HV.out q x (by rw [List.length_set];exact(List.getElem?_eq_some_iff.1 HY.out).1)
    have CZ:Hid (Chg (fun k=>k=b) wr Z):=by show Chg (fun k=>k=b) wr Z;rw [← hZ];exact((CV.out.setCell ⟨b,_,none⟩ _ (.inl rfl)).setCell ⟨b,_,none⟩ _ (.inl rfl)).setCell ⟨b,_,none⟩ _ (.inl rfl)
    rw [hZ]
    clear hZ z0 z1 z2 g0 g1 g2 HV CV
    refine hK.out _ _ (fun _=>trivial) (fun _=>?_)
    clear hK K
    refine last_done (by kernel_rfl) ?_ _
    clear wp wq
    go_wp2
    go_roundg (n - (i+1))
    case measure=>have:=HI.out;omega
    case rel=>exact⟨i+1,by omega,by rw [HW1.out],by rw [← HSW.out];exact HZ.out,HCHG.out.trans CZ.out (fun _ _ e=>e)⟩
   case h19n19=>
    intro K hK
    go_simp
    refine hK.out _ _ (fun _=>trivial) (fun _=>?_)
    clear hK K
    refine last_one (i:=13) (by kernel_rfl) rfl ?_
    intro K hK
    go_simp
    refine hK.out _ _ (fun _=>trivial) (fun _=>?_)
    clear hK K
    refine tk 20 trivial (h:=?_)
    refine last_one (i:=21) (by kernel_rfl) rfl ?_
    intro K hK
    go_simp
    obtain⟨V,hV⟩:∃V,(((wr.setCell ⟨b,p*3,none⟩ (.int .i64 y.tm)).setCell ⟨b,p*3+1,none⟩ (.bool y.tk)).setCell ⟨b,p*3+2,none⟩ (.slice (S.so y.jx) (S.sl y.jx) (S.sc y.jx))).drew=V:=⟨_,rfl⟩
    have HV:Hid (RwE S V b (D.set p y) r):=by show RwE S V b (D.set p y) r;rw [← hV];exact RwE.below (drew_below _) (RwE.set HROW.out p y (List.getElem?_eq_some_iff.1 HX.out).1)
    have CV:Hid (Chg (fun k=>k=b) wr V):=by show Chg (fun k=>k=b) wr V;rw [← hV];exact((((Chg.refl (fun k=>k=b) wr).setCell ⟨b,_,none⟩ _ (.inl rfl)).setCell ⟨b,_,none⟩ _ (.inl rfl)).setCell ⟨b,_,none⟩ _ (.inl rfl)).drew
    rw [hV]
    clear hV x0 x1 x2 y0 y1 y2 f0 f1 f2
    obtain⟨y',hy'⟩:∃y',(D.set p y)[q]?=some y':=⟨_,List.getElem?_eq_getElem (by rw [List.length_set];exact(List.getElem?_eq_some_iff.1 HY.out).1)⟩
    obtain⟨z0,z1,z2⟩:=HV.out.at hy'
    have g0:=HV.out.free (q*3)
    have g1:=HV.out.free (q*3+1)
    have g2:=HV.out.free (q*3+2)
    clear hy'
    refine hK.out _ _ (fun _=>trivial) (fun _=>?_)
    clear hK K
    refine tk 22 trivial (h:=?_)
    refine last_one (i:=23) (by kernel_rfl) rfl ?_
    intro K hK
    go_simp
    obtain⟨Z,hZ⟩:∃Z,((V.setCell ⟨b,q*3,none⟩ (.int .i64 x.tm)).setCell ⟨b,q*3+1,none⟩ (.bool x.tk)).setCell ⟨b,q*3+2,none⟩ (.slice (S.so x.jx) (S.sl x.jx) (S.sc x.jx))=Z:=⟨_,rfl⟩
    have HZ:Hid (RwE S Z b (swapE D p q) r):=by show RwE S Z b (swapE D p q) r;rw [← hZ,swapE_at HX.out HY.out];exact RwE.set HV.out q x (by rw [List.length_set];exact(List.getElem?_eq_some_iff.1 HY.out).1)
    have CZ:Hid (Chg (fun k=>k=b) wr Z):=by show Chg (fun k=>k=b) wr Z;rw [← hZ];exact((CV.out.setCell ⟨b,_,none⟩ _ (.inl rfl)).setCell ⟨b,_,none⟩ _ (.inl rfl)).setCell ⟨b,_,none⟩ _ (.inl rfl)
    rw [hZ]
    clear hZ z0 z1 z2 g0 g1 g2 HV CV
    refine hK.out _ _ (fun _=>trivial) (fun _=>?_)
    clear hK K
    refine last_done (by kernel_rfl) ?_ _
    clear wp wq
    go_wp2
    go_roundg (n - (i+1))
    case measure=>have:=HI.out;omega
    case rel=>exact⟨i+1,by omega,by rw [HW1.out],by rw [← HSW.out];exact HZ.out,HCHG.out.trans CZ.out (fun _ _ e=>e)⟩
  ·have e:i=n:=by omega
   subst e
   go_wp2
   go_end0
   have h:=HROW.out
   obtain⟨e1,e2,e3,e4,e5,e6⟩:=HALL.out
   rw [List.take_of_length_le (by omega),List.take_of_length_le (by omega),List.drop_eq_nil_of_le (by omega),List.drop_eq_nil_of_le (by omega)]at h
   exact⟨rfl,by simpa using h,HCHG.out⟩
end Go.Proofs.YtceoibfliggalaaGreatDoor
namespace Go.Proofs.YtceoibfliggalaaGreatDoor
open Go.RowKit Wd Tr Cg Lg
theorem cmp_lt {a b:Int} (h:a<b):decide (cmpV a b<0)=true:=decide_eq_true (by simp [cmpV,h])
theorem cmp_ge {a b:Int} (h:b≤a):decide (cmpV a b<0)=false:=decide_eq_false (by unfold cmpV;rw [if_neg (by omega)];split<;>omega)
set_option maxHeartbeats 1000000 in
set_option maxRecDepth 20000 in
theorem insertion_none {w:World} {ao:Option Addr} {a N cap:Nat} {fv:Value} (hsz:a≤1099511627776):
  Calls Tryz.prog 191 #[.slice ao N cap,.int .i64 a,.int .i64 a,fv] w fun e w'=>e=.returned (.tuple #[])∧w'=w:=by
 have hw:decide (wrap64 ((a:Int)+1)<(a:Int))=false:=decide_eq_false (by unfold wrap64;omega)
 clear hsz
 go_enter Tryz.func191,Tryz.ntmps191
 go_wp2
 refine wp_loop_rounds 1 ?_
 rw [rounds_succ]
 go_wp2
 go_end0
 exact⟨rfl,rfl⟩
set_option maxHeartbeats 2000000 in
set_option maxRecDepth 20000 in
theorem insertion_some {S:Slx} {w:World} {b a c N cap:Nat} {r:List Value} (P D Q:List Ev) (hD:0<D.length) (ha:P.length=a) (hc:P.length+D.length=c)
  (hN:P.length+D.length+Q.length=N) (hsz:N≤1099511627776) (hO:D.Pairwise Ev.O) (hR:RwE S w b (P++(D++Q)) r):
  Calls Tryz.prog 191 #[.slice (some ⟨b,0,none⟩) N cap,.int .i64 a,.int .i64 c,.func (.func 151) #[] #[]] w fun e w'=>e=.returned (.tuple #[])∧(∃C,C.Perm D∧SrtE C∧RwE S w' b (P++(C++Q)) r)∧Chg (fun k=>k=b) w w':=by
 have HALL:Hid (P.length=a∧P.length+D.length=c∧P.length+D.length+Q.length=N∧N≤1099511627776∧D.Pairwise Ev.O):=⟨ha,hc,hN,hsz,hO⟩
 have HR:Hid (RwE S w b (P++(D++Q)) r):=hR
 obtain⟨d,D',hDD⟩:∃d D',D=d::D':=by
  cases D with
  | nil=>simp at hD
  | cons d D'=>exact⟨d,D',rfl⟩
 have HDD:Hid (D=d::D'):=hDD
 have HW0:Hid (wrap64 ((a:Int)+1)=((a+1:Nat):Int)):=by show wrap64 ((a:Int)+1)=((a+1:Nat):Int);unfold wrap64;omega
 have hclo:=clo_any
 clear hD ha hc hN hsz hO hR hDD
 go_enter Tryz.func191,Tryz.ntmps191
 go_wp2
 go_loopg [8] D'.length (fun gk v wr=>∃(i:Nat) (C1 D1 D2:List Ev),D2.length=gk∧v=.int .i64 i∧D1++D2=D∧C1.Perm D1∧SrtE C1∧P.length+C1.length=i∧0<C1.length∧RwE S wr b (P++(C1++(D2++Q))) r∧Chg (fun k=>k=b) w wr)
 case atStart=>exact⟨a+1,[d],[d],D',rfl,by rw [HW0.out],HDD.out.symm,List.Perm.refl _,by simp [SrtE],by simp [HALL.out.1],by simp,by have:=HR.out;rw [HDD.out]at this;exact this,Chg.refl _ _⟩
 case round=>
  obtain⟨i,C1,D1,D2,hgk,rfl,hD12,hperm,hsrt,hi,hC1,hrow,hchg⟩:=hrel
  have HLEN:Hid (C1.length=D1.length∧D1.length+D2.length=D.length):=⟨hperm.length_eq,by rw [← hD12,List.length_append]⟩
  have HC:Hid (D2.length=gk∧D1++D2=D∧C1.Perm D1∧SrtE C1∧P.length+C1.length=i∧0<C1.length):=⟨hgk,hD12,hperm,hsrt,hi,hC1⟩
  have HROW0:Hid (RwE S wr b (P++(C1++(D2++Q))) r):=hrow
  have HCHG:Hid (Chg (fun k=>k=b) w wr):=hchg
  clear hgk hD12 hperm hsrt hi hC1 hrow hchg HR
  cases D2 with
  | nil=>
   have hlt:¬(i:Int)<(c:Int):=(by have:=HALL.out;have:=HLEN.out;have:=HC.out;simp only [List.length_nil]at *;omega)
   go_wp2
   go_end0
   obtain⟨a1,a2,a3,a4,a5,a6⟩:=HC.out
   rw [List.append_nil]at a2
   exact⟨rfl,⟨C1,a2▸a3,a4,HROW0.out⟩,HCHG.out⟩
  | cons x D3=>
   have hlt:(i:Int)<(c:Int):=(by have:=HALL.out;have:=HLEN.out;have:=HC.out;simp only [List.length_cons]at *;omega)
   have HLB:Hid (i+1+D3.length+Q.length=N):=by
    show i+1+D3.length+Q.length=N
    have:=HALL.out;have:=HLEN.out;have:=HC.out;simp only [List.length_cons]at *;omega
   have HOX:Hid (∀y∈C1,y.O x):=by
    intro y hy
    obtain⟨a1,a2,a3,a4,a5,a6⟩:=HC.out
    have h1:=HALL.out.2.2.2.2
    rw [← a2]at h1
    exact(List.pairwise_append.1 h1).2.2 y (a3.mem_iff.1 hy) x (by simp)
   have HGK:Hid ((x::D3).length=gk):=HC.out.1
   go_upto_region 3 with fail
   go_wp2
   obtain⟨V,hV⟩:∃V:World,V=wr:=⟨_,rfl⟩
   rw [← hV]at HROW0 HCHG
   rw [← hV]
   clear hV
   go_loopg [9] C1.length (fun gk2 v wr2=>∃t:Nat,t=gk2∧t≤C1.length∧v=.int .i64 ((a+t:Nat):Int)∧(∀y∈C1.drop t,x.tm<y.tm)∧RwE S wr2 b (P++(C1.take t++x::(C1.drop t++(D3++Q)))) r∧Chg (fun k=>k=b) w wr2)
   case atStart=>exact⟨C1.length,rfl,Nat.le_refl _,by rw [← HC.out.2.2.2.2.1,HALL.out.1],by simp,by simpa using HROW0.out,HCHG.out⟩
   case round=>
    obtain⟨t,htk,htl,rfl,hbig,hrow,hchg⟩:=hrel
    clear HROW0 HCHG
    have HROW:Hid (RwE S wr b (P++(C1.take t++x::(C1.drop t++(D3++Q)))) r):=hrow
    have HCHG:Hid (Chg (fun k=>k=b) w wr):=hchg
    have HTT:Hid (t=gk∧t≤C1.length∧∀y∈C1.drop t,x.tm<y.tm):=⟨htk,htl,hbig⟩
    have HOUT:Hid ((∀y,(C1.take t).getLast?=some y→y.tm≤x.tm)→∀W,RwE S W b (P++(C1.take t++x::(C1.drop t++(D3++Q)))) r→(∃(C2 D4:List Ev),D4++D3=D∧C2.Perm D4∧SrtE C2∧P.length+C2.length=i+1∧0<C2.length∧RwE S W b (P++(C2++(D3++Q))) r)):=by
     intro hl W hW
     obtain⟨a1,a2,a3,a4,a5,a6⟩:=HC.out
     have hs:SrtE (C1.take t++C1.drop t):=by rw [List.take_append_drop];exact a4
     refine⟨C1.take t++x::C1.drop t,D1++ [x],by rw [← a2];simp,?_,ins_done hs HTT.out.2.2 hl (fun y hy=>HOX.out y (List.mem_of_mem_take hy)),?_,by rw [List.length_append,List.length_cons];omega,by simpa using hW⟩
     ·refine List.perm_middle.trans ?_
      rw [List.take_append_drop]
      exact(List.Perm.cons x a3).trans (List.perm_append_singleton x D1).symm
     ·have:=HTT.out.2.1;simp;omega
    have HW1:Hid (wrap64 ((i:Int)+1)=((i+1:Nat):Int)):=by show wrap64 ((i:Int)+1)=((i+1:Nat):Int);have:=HALL.out;have:=HLB.out;unfold wrap64;omega
    clear htk htl hbig hrow hchg
    rcases t with _ | t
    ·have hg:decide ((a:Int)<((a+0:Nat):Int))=false:=decide_eq_false (by omega)
     have HEND:=HOUT.out (by simp) (wr.drew) (RwE.below (drew_below wr) HROW.out)
     have HEN:Hid (∃(C2 D4:List Ev),D4++D3=D∧C2.Perm D4∧SrtE C2∧P.length+C2.length=i+1∧0<C2.length∧RwE S (wr.drew) b (P++(C2++(D3++Q))) r):=HEND
     clear HEND
     go_upto_region 4 with fail
     refine wp_region_last (S:=(fun x':World=>Below wr.heap.size wr x')) (L:=99) (by kernel_rfl) ?_
     have HSW0:(fun x':World=>Below wr.heap.size wr x') (wr.drew):=drew_below wr
     refine tk 0 HSW0 (h:=?_)
     refine tk 1 HSW0 (h:=?_)
     refine tk 2 HSW0 (h:=?_)
     try rw [hg]
     refine tk 3 HSW0 (h:=?_)
     refine sk 4 HSW0 (h:=?_)
     refine sk 5 HSW0 (h:=?_)
     refine sk 6 HSW0 (h:=?_)
     refine sk 7 HSW0 (h:=?_)
     refine sk 8 HSW0 (h:=?_)
     refine sk 9 HSW0 (h:=?_)
     refine sk 10 HSW0 (h:=?_)
     refine sk 11 HSW0 (h:=?_)
     refine sk 12 HSW0 (h:=?_)
     refine sk 13 HSW0 (h:=?_)
     refine sk 14 HSW0 (h:=?_)
     refine sk 15 HSW0 (h:=?_)
     refine tk 16 HSW0 (h:=?_)
     refine last_done (by kernel_rfl) ?_ _
     have HSX:Hid (Below wr.heap.size wr wr.drew):=HSW0
     clear HSW0 hg
     clear hclo
     go_wp2
     go_roundg D3.length
     case measure=>have:=HGK.out;simp only [List.length_cons]at this;omega
     case rel=>
      obtain⟨C2,D4,e1,e2,e3,e4,e5,e6⟩:=HEN.out
      exact⟨i+1,C2,D4,D3,rfl,by rw [HW1.out],e1,e2,e3,e4,e5,e6,HCHG.out.trans (Chg.of_below HSX.out _) (fun _ _ e=>e)⟩
    ·have hg:decide ((a:Int)<((a+(t+1):Nat):Int))=true:=decide_eq_true (by omega)
     have htl:=HTT.out.2.1
     obtain⟨y,hy⟩:∃y,C1[t]?=some y:=⟨_,List.getElem?_eq_getElem (by omega)⟩
     obtain⟨p,hp⟩:∃p,a+(t+1)=p:=⟨_,rfl⟩
     obtain⟨q,hq⟩:∃q,a+t=q:=⟨_,rfl⟩
     have HPQ:Hid (a+(t+1)=p∧a+t=q):=⟨hp,hq⟩
     have HLEN2:Hid ((P++(C1.take (t+1)++x::(C1.drop (t+1)++(D3++Q)))).length=N):=by
      show (P++(C1.take (t+1)++x::(C1.drop (t+1)++(D3++Q)))).length=N
      have:=HLB.out;have:=HC.out.2.2.2.2.1
      simp;omega
     have hpN:p<N:=by have:=HLB.out;have:=HC.out.2.2.2.2.1;have:=HALL.out.1;omega
     have hqN:q<N:=by omega
     have hpN':(p:Int)<N:=by omega
     have hqN':(q:Int)<N:=by omega
     have HWQ:Hid (IntKind.i64.wrap ((p:Int) - 1)=(q:Int)):=by
      show IntKind.i64.wrap ((p:Int) - 1)=(q:Int)
      have:=HALL.out.2.2.2.1
      rw [IntKind.wrap_i64];omega
     have HWR:Hid (wrap64 ((p:Int) - 1)=((a+t:Nat):Int)):=by
      show wrap64 ((p:Int) - 1)=((a+t:Nat):Int)
      have:=HALL.out.2.2.2.1
      unfold wrap64;omega
     have HX:Hid ((P++(C1.take (t+1)++x::(C1.drop (t+1)++(D3++Q))))[p]?=some x):=by
      show (P++(C1.take (t+1)++x::(C1.drop (t+1)++(D3++Q))))[p]?=some x
      rw [← List.append_assoc]
      refine get_app _ _ _ _ ?_
      have:=HALL.out.1
      simp;omega
     have HY:Hid ((P++(C1.take (t+1)++x::(C1.drop (t+1)++(D3++Q))))[q]?=some y):=by
      show (P++(C1.take (t+1)++x::(C1.drop (t+1)++(D3++Q))))[q]?=some y
      have:=HALL.out.1
      rw [List.getElem?_append_right (by omega),List.getElem?_append_left (by simp;omega),List.getElem?_take_of_lt (by omega),show q - P.length=t by omega]
      exact hy
     have HSW:Hid (swapE (P++(C1.take (t+1)++x::(C1.drop (t+1)++(D3++Q)))) p q=P++(C1.take t++x::(C1.drop t++(D3++Q)))):=by
      show swapE (P++(C1.take (t+1)++x::(C1.drop (t+1)++(D3++Q)))) p q=P++(C1.take t++x::(C1.drop t++(D3++Q)))
      have:=swap_left P C1 (D3++Q) x (t:=t) (by omega)
      have e:=HALL.out.1
      rw [show P.length+t+1=p by omega,show P.length+t=q by omega]at this
      exact this
     have HLY:Hid ((C1.take (t+1)).getLast?=some y∧C1.drop t=y::C1.drop (t+1)):=by
      obtain⟨h1,h2⟩:=List.getElem?_eq_some_iff.1 hy
      refine⟨?_,by rw [List.drop_eq_getElem_cons h1,h2]⟩
      rw [List.take_succ_eq_append_getElem h1,h2];simp
     simp only [hp]at hg ⊢
     replace hg:decide (a<p)=true:=decide_eq_true (by omega)
     clear hy hp hq htl
     generalize P++(C1.take (t+1)++x::(C1.drop (t+1)++(D3++Q)))=DD at *
     obtain⟨x0,x1,x2⟩:=HROW.out.at HX.out
     obtain⟨y0,y1,y2⟩:=HROW.out.at HY.out
     have wq:=HWQ.out
     by_cases hxy:x.tm<y.tm
     ·have hcm:=cmp_lt hxy
      have HXY:Hid (x.tm<y.tm):=hxy
      clear hxy
      go_upto_region 4 with fail
      refine wp_region_last (S:=(fun x':World=>Below wr.heap.size wr x')) (L:=99) (by kernel_rfl) ?_
      have HSW0:(fun x':World=>Below wr.heap.size wr x') (wr.drew):=drew_below wr
      have HF:Hid (∀xx:World,(fun x':World=>Below wr.heap.size wr x') xx→_∧_∧_∧_∧_∧_∧True):=fun xx hSx=>⟨cellB hSx x0,cellB hSx x1,cellB hSx x2,cellB hSx y0,cellB hSx y1,cellB hSx y2,trivial⟩
      refine tk 0 HSW0 (h:=?_)
      refine tk 1 HSW0 (h:=?_)
      refine tk 2 HSW0 (h:=?_)
      try rw [hg]
      refine tk 3 HSW0 (h:=?_)
      refine tk 4 HSW0 (h:=?_)
      refine tk 5 HSW0 (h:=?_)
      refine tk 6 HSW0 (h:=?_)
      refine tk 7 HSW0 (h:=?_)
      refine tk 8 HSW0 (h:=?_)
      refine tk 9 HSW0 (h:=?_)
      refine tk 10 HSW0 (h:=?_)
      refine tk 11 HSW0 (h:=?_)
      refine tk 12 HSW0 (h:=?_)
      refine tk 13 HSW0 (h:=?_)
      refine last_one (i:=14) (by kernel_rfl) rfl ?_
      intro K hK
      go_simp
      go_at_call 151
      refine(hclo _ _ _ _ _ _ _ _ _ _ _).mono ?_
      rintro e Z1 ⟨rfl,bz1⟩
      have HSZ1:(fun x':World=>Below wr.heap.size wr x') Z1:=HSW0.trans (bz1.mono HSW0.size)
      go_simp
      refine hK.out _ _ (fun _=>HSZ1) (fun _=>?_)
      clear hK K HSW0
      refine tk 15 HSZ1 (h:=?_)
      try rw [hcm]
      refine tk 16 HSZ1 (h:=?_)
      refine last_done (by kernel_rfl) ?_ _
      have HB1:Hid (Below wr.heap.size wr Z1):=HSZ1
      have HROW1:Hid (RwE S Z1 b DD r):=RwE.below HSZ1 HROW.out
      clear HSZ1 bz1 x0 x1 x2 y0 y1 y2 HROW hclo hg hcm
      have HROW:Hid (RwE S Z1 b DD r):=HROW1.out
      clear HROW1
      obtain⟨x0,x1,x2⟩:=HROW.out.at HX.out
      obtain⟨y0,y1,y2⟩:=HROW.out.at HY.out
      have f0:=HROW.out.free (p*3)
      have f1:=HROW.out.free (p*3+1)
      have f2:=HROW.out.free (p*3+2)
      go_upto_region 6 with fail
      refine wp_region_last (S:=(fun _:World=>True)) (L:=99) (by kernel_rfl) ?_
      refine tk 0 trivial (h:=?_)
      refine tk 1 trivial (h:=?_)
      refine tk 2 trivial (h:=?_)
      refine tk 3 trivial (h:=?_)
      refine tk 4 trivial (h:=?_)
      refine tk 5 trivial (h:=?_)
      refine tk 6 trivial (h:=?_)
      refine tk 7 trivial (h:=?_)
      refine tk 8 trivial (h:=?_)
      refine tk 10 trivial (h:=?_)
      refine tk 11 trivial (h:=?_)
      refine tk 12 trivial (h:=?_)
      refine last_few (i:=9) (l:= [13]) (by kernel_rfl) (List.forall_mem_cons.2 ⟨⟨_,rfl,?h9n30⟩,List.forall_mem_cons.2 ⟨⟨_,rfl,?h13n30⟩,List.forall_mem_nil _⟩⟩)
      case h9n30=>
       intro K hK
       go_simp
       refine hK.out _ _ (fun _=>trivial) (fun _=>?_)
       clear hK K
       refine last_one (i:=13) (by kernel_rfl) rfl ?_
       intro K hK
       go_simp
       refine hK.out _ _ (fun _=>trivial) (fun _=>?_)
       clear hK K
       refine tk 14 trivial (h:=?_)
       refine last_one (i:=15) (by kernel_rfl) rfl ?_
       intro K hK
       go_simp
       obtain⟨V,hV⟩:∃V,(((Z1.setCell ⟨b,p*3,none⟩ (.int .i64 y.tm)).setCell ⟨b,p*3+1,none⟩ (.bool y.tk)).setCell ⟨b,p*3+2,none⟩ (.slice (S.so y.jx) (S.sl y.jx) (S.sc y.jx))).drew=V:=⟨_,rfl⟩
       have HV:Hid (RwE S V b (DD.set p y) r):=by show RwE S V b (DD.set p y) r;rw [← hV];exact RwE.below (drew_below _) (RwE.set HROW.out p y (List.getElem?_eq_some_iff.1 HX.out).1)
       have CV:Hid (Chg (fun k=>k=b) Z1 V):=by show Chg (fun k=>k=b) Z1 V;rw [← hV];exact((((Chg.refl (fun k=>k=b) Z1).setCell ⟨b,_,none⟩ _ (.inl rfl)).setCell ⟨b,_,none⟩ _ (.inl rfl)).setCell ⟨b,_,none⟩ _ (.inl rfl)).drew
       rw [hV]
       clear hV x0 x1 x2 y0 y1 y2 f0 f1 f2
       obtain⟨y',hy'⟩:∃y',(DD.set p y)[q]?=some y':=⟨_,List.getElem?_eq_getElem (by rw [List.length_set];exact(List.getElem?_eq_some_iff.1 HY.out).1)⟩
       obtain⟨z0,z1,z2⟩:=HV.out.at hy'
       have g0:=HV.out.free (q*3)
       have g1:=HV.out.free (q*3+1)
       have g2:=HV.out.free (q*3+2)
       clear hy'
       refine hK.out _ _ (fun _=>trivial) (fun _=>?_)
       clear hK K
       refine tk 16 trivial (h:=?_)
       refine last_one (i:=17) (by kernel_rfl) rfl ?_
       intro K hK
       go_simp
       obtain⟨Z,hZ⟩:∃Z,((V.setCell ⟨b,q*3,none⟩ (.int .i64 x.tm)).setCell ⟨b,q*3+1,none⟩ (.bool x.tk)).setCell ⟨b,q*3+2,none⟩ (.slice (S.so x.jx) (S.sl x.jx) (S.sc x.jx))=Z:=⟨_,rfl⟩
       have HZ:Hid (RwE S Z b (swapE DD p q) r):=by show RwE S Z b (swapE DD p q) r;rw [← hZ,swapE_at HX.out HY.out];exact RwE.set HV.out q x (by rw [List.length_set];exact(List.getElem?_eq_some_iff.1 HY.out).1)
       have CZ:Hid (Chg (fun k=>k=b) Z1 Z):=by show Chg (fun k=>k=b) Z1 Z;rw [← hZ];exact((CV.out.setCell ⟨b,_,none⟩ _ (.inl rfl)).setCell ⟨b,_,none⟩ _ (.inl rfl)).setCell ⟨b,_,none⟩ _ (.inl rfl)
       rw [hZ]
       clear hZ z0 z1 z2 g0 g1 g2 HV CV
       refine hK.out _ _ (fun _=>trivial) (fun _=>?_)
       clear hK K
       refine last_done (by kernel_rfl) ?_ _
       clear wq
       go_wp2
       go_roundg t
       case measure=>have:=HTT.out.1;omega
       case rel=>exact⟨t,rfl,by have:=HTT.out.2.1;omega,by rw [HWR.out],(by intro y' hy';rw [HLY.out.2]at hy';rcases List.mem_cons.1 hy' with h | h;(rw [h];exact HXY.out);exact HTT.out.2.2 y' h),by rw [← HSW.out];exact HZ.out,(HCHG.out.trans (Chg.of_below HB1.out _) (fun _ _ e=>e)).trans CZ.out (fun _ _ e=>e)⟩
      case h13n30=>
       intro K hK
       go_simp
       refine hK.out _ _ (fun _=>trivial) (fun _=>?_)
       clear hK K
       refine last_one (i:=9) (by kernel_rfl) rfl ?_
       intro K hK
       go_simp
       refine hK.out _ _ (fun _=>trivial) (fun _=>?_)
       clear hK K
       refine tk 14 trivial (h:=?_)
       refine last_one (i:=15) (by kernel_rfl) rfl ?_
       intro K hK
       go_simp
       obtain⟨V,hV⟩:∃V,(((Z1.setCell ⟨b,p*3,none⟩ (.int .i64 y.tm)).setCell ⟨b,p*3+1,none⟩ (.bool y.tk)).setCell ⟨b,p*3+2,none⟩ (.slice (S.so y.jx) (S.sl y.jx) (S.sc y.jx))).drew=V:=⟨_,rfl⟩
       have HV:Hid (RwE S V b (DD.set p y) r):=by show RwE S V b (DD.set p y) r;rw [← hV];exact RwE.below (drew_below _) (RwE.set HROW.out p y (List.getElem?_eq_some_iff.1 HX.out).1)
       have CV:Hid (Chg (fun k=>k=b) Z1 V):=by show Chg (fun k=>k=b) Z1 V;rw [← hV];exact((((Chg.refl (fun k=>k=b) Z1).setCell ⟨b,_,none⟩ _ (.inl rfl)).setCell ⟨b,_,none⟩ _ (.inl rfl)).setCell ⟨b,_,none⟩ _ (.inl rfl)).drew
       rw [hV]
       clear hV x0 x1 x2 y0 y1 y2 f0 f1 f2
       obtain⟨y',hy'⟩:∃y',(DD.set p y)[q]?=some y':=⟨_,List.getElem?_eq_getElem (by rw [List.length_set];exact(List.getElem?_eq_some_iff.1 HY.out).1)⟩
       obtain⟨z0,z1,z2⟩:=HV.out.at hy'
       have g0:=HV.out.free (q*3)
       have g1:=HV.out.free (q*3+1)
       have g2:=HV.out.free (q*3+2)
       clear hy'
       refine hK.out _ _ (fun _=>trivial) (fun _=>?_)
       clear hK K
       refine tk 16 trivial (h:=?_)
       refine last_one (i:=17) (by kernel_rfl) rfl ?_
       intro K hK
       go_simp
       obtain⟨Z,hZ⟩:∃Z,((V.setCell ⟨b,q*3,none⟩ (.int .i64 x.tm)).setCell ⟨b,q*3+1,none⟩ (.bool x.tk)).setCell ⟨b,q*3+2,none⟩ (.slice (S.so x.jx) (S.sl x.jx) (S.sc x.jx))=Z:=⟨_,rfl⟩
       have HZ:Hid (RwE S Z b (swapE DD p q) r):=by show RwE S Z b (swapE DD p q) r;rw [← hZ,swapE_at HX.out HY.out];exact RwE.set HV.out q x (by rw [List.length_set];exact(List.getElem?_eq_some_iff.1 HY.out).1)
       have CZ:Hid (Chg (fun k=>k=b) Z1 Z):=by show Chg (fun k=>k=b) Z1 Z;rw [← hZ];exact((CV.out.setCell ⟨b,_,none⟩ _ (.inl rfl)).setCell ⟨b,_,none⟩ _ (.inl rfl)).setCell ⟨b,_,none⟩ _ (.inl rfl)
       rw [hZ]
       clear hZ z0 z1 z2 g0 g1 g2 HV CV
       refine hK.out _ _ (fun _=>trivial) (fun _=>?_)
       clear hK K
       refine last_done (by kernel_rfl) ?_ _
       clear wq
       go_wp2
       go_roundg t
       case measure=>have:=HTT.out.1;omega
       case rel=>exact⟨t,rfl,by have:=HTT.out.2.1;omega,by rw [HWR.out],(by intro y' hy';rw [HLY.out.2]at hy';rcases List.mem_cons.1 hy' with h | h;(rw [h];exact HXY.out);exact HTT.out.2.2 y' h),by rw [← HSW.out];exact HZ.out,(HCHG.out.trans (Chg.of_below HB1.out _) (fun _ _ e=>e)).trans CZ.out (fun _ _ e=>e)⟩
     ·have hcm:=cmp_ge (Int.not_lt.1 hxy)
      have HEND:=HOUT.out (by intro y' hy';rw [HLY.out.1]at hy';cases hy';omega)
      have HEN:Hid (∀W,RwE S W b DD r→(∃(C2 D4:List Ev),D4++D3=D∧C2.Perm D4∧SrtE C2∧P.length+C2.length=i+1∧0<C2.length∧RwE S W b (P++(C2++(D3++Q))) r)):=HEND
      clear HEND hxy
      go_upto_region 4 with fail
      refine wp_region_last (S:=(fun x':World=>Below wr.heap.size wr x')) (L:=99) (by kernel_rfl) ?_
      have HSW0:(fun x':World=>Below wr.heap.size wr x') (wr.drew):=drew_below wr
      have HF:Hid (∀xx:World,(fun x':World=>Below wr.heap.size wr x') xx→_∧_∧_∧_∧_∧_∧True):=fun xx hSx=>⟨cellB hSx x0,cellB hSx x1,cellB hSx x2,cellB hSx y0,cellB hSx y1,cellB hSx y2,trivial⟩
      refine tk 0 HSW0 (h:=?_)
      refine tk 1 HSW0 (h:=?_)
      refine tk 2 HSW0 (h:=?_)
      try rw [hg]
      refine tk 3 HSW0 (h:=?_)
      refine tk 4 HSW0 (h:=?_)
      refine tk 5 HSW0 (h:=?_)
      refine tk 6 HSW0 (h:=?_)
      refine tk 7 HSW0 (h:=?_)
      refine tk 8 HSW0 (h:=?_)
      refine tk 9 HSW0 (h:=?_)
      refine tk 10 HSW0 (h:=?_)
      refine tk 11 HSW0 (h:=?_)
      refine tk 12 HSW0 (h:=?_)
      refine tk 13 HSW0 (h:=?_)
      refine last_one (i:=14) (by kernel_rfl) rfl ?_
      intro K hK
      go_simp
      go_at_call 151
      refine(hclo _ _ _ _ _ _ _ _ _ _ _).mono ?_
      rintro e Z1 ⟨rfl,bz1⟩
      have HSZ1:(fun x':World=>Below wr.heap.size wr x') Z1:=HSW0.trans (bz1.mono HSW0.size)
      go_simp
      refine hK.out _ _ (fun _=>HSZ1) (fun _=>?_)
      clear hK K HSW0
      refine tk 15 HSZ1 (h:=?_)
      try rw [hcm]
      refine tk 16 HSZ1 (h:=?_)
      refine last_done (by kernel_rfl) ?_ _
      have HB1:Hid (Below wr.heap.size wr Z1):=HSZ1
      clear HSZ1 bz1 x0 x1 x2 y0 y1 y2 hg hcm wq
      clear hclo
      go_wp2
      go_roundg D3.length
      case measure=>have:=HGK.out;simp only [List.length_cons]at this;omega
      case rel=>
       obtain⟨C2,D4,e1,e2,e3,e4,e5,e6⟩:=HEN.out Z1 (RwE.below HB1.out HROW.out)
       exact⟨i+1,C2,D4,D3,rfl,by rw [HW1.out],e1,e2,e3,e4,e5,e6,HCHG.out.trans (Chg.of_below HB1.out _) (fun _ _ e=>e)⟩
end Go.Proofs.YtceoibfliggalaaGreatDoor
namespace Go.Proofs.YtceoibfliggalaaGreatDoor
open Go.RowKit Wd Tr Cg Lg
theorem mid_wrap (i j:Nat) (h:i+j≤140737488355328):wrap64 (IntKind.u64.wrap (wrap64 ((i:Int)+(j:Int))) / 2)=(((i+j) / 2:Nat):Int):=by
 rw [wrapA i j h,IntKind.wrap_u64,show (((i+j:Nat):Int) % 18446744073709551616)=((i+j:Nat):Int) by omega,show (((i+j:Nat):Int) / 2)=(((i+j) / 2:Nat):Int) by omega]
 exact wrapN _ (by omega)
theorem half_cut {T:Nat→Bool} {lo hi i:Nat} {A:List Ev} (H:Half T lo hi i i) (p:Ev→Bool) (hT:∀k y,A[k]?=some y→T (lo+k)=p y) (hl:lo+A.length=hi):
  (∀y∈A.take (i - lo),p y=true)∧∀y∈A.drop (i - lo),p y=false:=by
 obtain⟨h1,h2,h3,h4,h5⟩:=H
 constructor
 ·intro y hy
  obtain⟨k,hk,e⟩:=mem_take_at hy
  rw [← hT k y e]
  exact h4 _ (by omega) (by omega)
 ·intro y hy
  obtain⟨k,hk,e⟩:=mem_drop_at hy
  have:=(List.getElem?_eq_some_iff.1 e).1
  rw [← hT k y e]
  exact h5 _ (by omega) (by omega)
set_option maxHeartbeats 2000000 in
set_option maxRecDepth 20000 in
theorem sym_left {S:Slx} {w:World} {b a m c N cap:Nat} {r:List Value} (P B Q:List Ev) (x:Ev) (hB:0<B.length) (ha:P.length=a) (hm:P.length+1=m) (hc:P.length+1+B.length=c)
  (hN:P.length+1+B.length+Q.length=N) (hsz:N≤1099511627776) (hs:SrtE B) (ho:AcrE [x] B) (hR:RwE S w b (P++(x::(B++Q))) r):
  Calls Tryz.prog 192 #[.slice (some ⟨b,0,none⟩) N cap,.int .i64 a,.int .i64 m,.int .i64 c,.func (.func 151) #[] #[]] w fun e w'=>e=.returned (.tuple #[])∧(∃C,C.Perm (x::B)∧SrtE C∧RwE S w' b (P++(C++Q)) r)∧Chg (fun k=>k=b) w w':=by
 have HALL:Hid (P.length=a∧P.length+1=m∧P.length+1+B.length=c∧P.length+1+B.length+Q.length=N∧N≤1099511627776∧SrtE B∧AcrE [x] B∧0<B.length):=⟨ha,hm,hc,hN,hsz,hs,ho,hB⟩
 have HR:Hid (RwE S w b (P++(x::(B++Q))) r):=hR
 obtain⟨D,hD⟩:∃D,P++(x::(B++Q))=D:=⟨_,rfl⟩
 have HD:Hid (P++(x::(B++Q))=D):=hD
 have HLD:Hid (D.length=N):=by show D.length=N;rw [← hD];simp;omega
 have HDB:Hid (∀k y,B[k]?=some y→D[m+k]?=some y):=by
  intro k y hk
  have h1:=(List.getElem?_eq_some_iff.1 hk).1
  rw [← hD,show P++(x::(B++Q))=(P++ [x])++(B++Q) by simp,List.getElem?_append_right (by simp;omega),List.getElem?_append_left (by simp;omega)]
  rw [show m+k - (P++ [x]).length=k by simp;omega]
  exact hk
 have HMO:Hid (Mono (fun k=>decide (tmE D k<x.tm)) m c):=by
  intro k l h1 h2 h3 h4
  have h5:=of_decide_eq_true h4
  refine decide_eq_true ?_
  have e:D=(P++ [x])++(B++Q):=by rw [← hD];simp
  have:=tm_rise (P:=P++ [x]) (A:=B) (Q:=Q) hs (k:=k) (l:=l) (by simp;omega) h2 (by simp;omega)
  rw [← e]at this
  omega
 have HXA:Hid (D[a]?=some x):=by show D[a]?=some x;rw [← hD];exact get_app P (B++Q) x a ha.symm
 rw [hD]at HR
 have h1:wrap64 ((m:Int) - (a:Int))=1:=by unfold wrap64;omega
 have hclo:=clo_any
 clear hB ha hm hc hN hsz hs ho hR hD
 go_enter Tryz.func192,Tryz.ntmps192
 go_wp2
 clear h1
 go_loopg [10,11] B.length (fun gk v1 v2 wr=>∃i j:Nat,j - i=gk∧v1=.int .i64 i∧v2=.int .i64 j∧Half (fun k=>decide (tmE D k<x.tm)) m c i j∧RwE S wr b D r∧Chg (fun k=>k=b) w wr)
 case atStart=>exact⟨m,c,(by have:=HALL.out;omega),rfl,rfl,Half.start (by have:=HALL.out;omega),HR.out,Chg.refl _ _⟩
 case round=>
  obtain⟨i,j,hgk,rfl,rfl,hhalf,hrow,hchg⟩:=hrel
  have HROW:Hid (RwE S wr b D r):=hrow
  have HCHG:Hid (Chg (fun k=>k=b) w wr):=hchg
  have HH:Hid (Half (fun k=>decide (tmE D k<x.tm)) m c i j):=hhalf
  have HGK:Hid (j - i=gk):=hgk
  clear hgk hhalf hrow hchg HR
  by_cases hlt:(i:Int)<(j:Int)
  ·obtain ⟨h,hh⟩:∃h,(i+j) / 2=h:=⟨_,rfl⟩
   have HHB:Hid (i≤h∧h<j∧h<N∧a<N∧(i+j) / 2=h):=by
    obtain⟨b1,b2,b3,_⟩:=HH.out
    obtain⟨a1,a2,a3,a4,a5,a6,a7,a8⟩:=HALL.out
    exact⟨by omega,by omega,by omega,by omega,hh⟩
   have hmid:wrap64 (IntKind.u64.wrap (wrap64 ((i:Int)+(j:Int))) / 2)=(h:Int):=by
    rw [mid_wrap i j (by obtain⟨b1,b2,b3,_⟩:=HH.out;obtain⟨a1,a2,a3,a4,a5,a6,a7,a8⟩:=HALL.out;omega),hh]
   have hhN':(h:Int)<N:=by clear hmid;have:=HHB.out;omega
   have haN':(a:Int)<N:=by clear hmid;have:=HHB.out;omega
   have hhN:h<N:=HHB.out.2.2.1
   have haN:a<N:=HHB.out.2.2.2.1
   obtain⟨y,hy⟩:∃y,D[h]?=some y:=⟨_,List.getElem?_eq_getElem (by rw [HLD.out];exact hhN)⟩
   obtain⟨x0,x1,x2⟩:=HROW.out.at HXA.out
   obtain⟨y0,y1,y2⟩:=HROW.out.at hy
   have HTY:Hid (tmE D h=y.tm):=tmE_at hy
   clear hy hh
   go_upto_region 5 with fail
   rw [hmid]
   clear hmid
   by_cases hxy:y.tm<x.tm
   ·have hcm:=cmp_lt hxy
    have HN:Hid (Half (fun k=>decide (tmE D k<x.tm)) m c (h+1) j):=HH.out.up HMO.out HHB.out.1 HHB.out.2.1 (decide_eq_true (by rw [HTY.out];exact hxy))
    have HW1:Hid (wrap64 ((h:Int)+1)=((h+1:Nat):Int)):=by show wrap64 ((h:Int)+1)=((h+1:Nat):Int);have:=HALL.out;unfold wrap64;omega
    clear hxy
    refine wp_region_last (S:=(fun x':World=>Below wr.heap.size wr x')) (L:=99) (by kernel_rfl) ?_
    have HSW0:(fun x':World=>Below wr.heap.size wr x') (wr.drew):=drew_below wr
    have HF:Hid (∀xx:World,(fun x':World=>Below wr.heap.size wr x') xx→_∧_∧_∧_∧_∧_∧True):=fun xx hSx=>⟨cellB hSx x0,cellB hSx x1,cellB hSx x2,cellB hSx y0,cellB hSx y1,cellB hSx y2,trivial⟩
    refine tk 0 HSW0 (h:=?_)
    refine tk 1 HSW0 (h:=?_)
    refine tk 2 HSW0 (h:=?_)
    refine tk 3 HSW0 (h:=?_)
    refine tk 4 HSW0 (h:=?_)
    refine tk 5 HSW0 (h:=?_)
    refine tk 6 HSW0 (h:=?_)
    refine tk 7 HSW0 (h:=?_)
    refine tk 8 HSW0 (h:=?_)
    refine last_one (i:=9) (by kernel_rfl) rfl ?_
    intro K hK
    go_simp
    go_at_call 151
    refine(hclo _ _ _ _ _ _ _ _ _ _ _).mono ?_
    rintro e Z1 ⟨rfl,bz1⟩
    have HSZ1:(fun x':World=>Below wr.heap.size wr x') Z1:=HSW0.trans (bz1.mono HSW0.size)
    go_simp
    refine hK.out _ _ (fun _=>HSZ1) (fun _=>?_)
    clear hK K HSW0
    refine tk 10 HSZ1 (h:=?_)
    try rw [hcm]
    refine last_done (by kernel_rfl) ?_ _
    have HB1:Hid (Below wr.heap.size wr Z1):=HSZ1
    clear HSZ1 bz1 x0 x1 x2 y0 y1 y2 hcm hclo
    go_wp2
    go_roundg (j - (h+1))
    case measure=>have:=HGK.out;have:=HHB.out;omega
    case rel=>exact⟨h+1,j,rfl,by rw [HW1.out],rfl,HN.out,RwE.below HB1.out HROW.out,HCHG.out.trans (Chg.of_below HB1.out _) (fun _ _ e=>e)⟩
   ·have hcm:=cmp_ge (Int.not_lt.1 hxy)
    have HN:Hid (Half (fun k=>decide (tmE D k<x.tm)) m c i h):=HH.out.down HMO.out HHB.out.1 HHB.out.2.1 (decide_eq_false (by rw [HTY.out];exact hxy))
    clear hxy
    refine wp_region_last (S:=(fun x':World=>Below wr.heap.size wr x')) (L:=99) (by kernel_rfl) ?_
    have HSW0:(fun x':World=>Below wr.heap.size wr x') (wr.drew):=drew_below wr
    have HF:Hid (∀xx:World,(fun x':World=>Below wr.heap.size wr x') xx→_∧_∧_∧_∧_∧_∧True):=fun xx hSx=>⟨cellB hSx x0,cellB hSx x1,cellB hSx x2,cellB hSx y0,cellB hSx y1,cellB hSx y2,trivial⟩
    refine tk 0 HSW0 (h:=?_)
    refine tk 1 HSW0 (h:=?_)
    refine tk 2 HSW0 (h:=?_)
    refine tk 3 HSW0 (h:=?_)
    refine tk 4 HSW0 (h:=?_)
    refine tk 5 HSW0 (h:=?_)
    refine tk 6 HSW0 (h:=?_)
    refine tk 7 HSW0 (h:=?_)
    refine tk 8 HSW0 (h:=?_)
    refine last_one (i:=9) (by kernel_rfl) rfl ?_
    intro K hK
    go_simp
    go_at_call 151
    refine(hclo _ _ _ _ _ _ _ _ _ _ _).mono ?_
    rintro e Z1 ⟨rfl,bz1⟩
    have HSZ1:(fun x':World=>Below wr.heap.size wr x') Z1:=HSW0.trans (bz1.mono HSW0.size)
    go_simp
    refine hK.out _ _ (fun _=>HSZ1) (fun _=>?_)
    clear hK K HSW0
    refine tk 10 HSZ1 (h:=?_)
    try rw [hcm]
    refine last_done (by kernel_rfl) ?_ _
    have HB1:Hid (Below wr.heap.size wr Z1):=HSZ1
    clear HSZ1 bz1 x0 x1 x2 y0 y1 y2 hcm hclo
    go_wp2
    go_roundg (h - i)
    case measure=>have:=HGK.out;have:=HHB.out;omega
    case rel=>exact⟨i,h,rfl,rfl,rfl,HN.out,RwE.below HB1.out HROW.out,HCHG.out.trans (Chg.of_below HB1.out _) (fun _ _ e=>e)⟩
  ·obtain rfl:i=j:=by have:=HH.out.2.1;omega
   obtain⟨a1,a2,a3,a4,a5,a6,a7,a8⟩:=HALL.out
   have hHi:=HH.out
   obtain⟨hlo,hhi⟩:=half_cut (A:=B) HH.out (fun y=>decide (y.tm<x.tm)) (fun k y hk=>by simp only [tmE_at (HDB.out k y hk)]) (by omega)
   have hfin:=one_left a6 a7 (i:=i - m) (fun y hy=>of_decide_eq_true (hlo y hy)) (fun y hy=>by have:=of_decide_eq_false (hhi y hy);omega)
   have HFIN:Hid (SrtE (B.take (i - m)++x::B.drop (i - m))∧(B.take (i - m)++x::B.drop (i - m)).Perm (x::B)):=hfin
   obtain⟨B1,hB1⟩:∃B1,B.take (i - m)=B1:=⟨_,rfl⟩
   obtain⟨B2,hB2⟩:∃B2,B.drop (i - m)=B2:=⟨_,rfl⟩
   have HBB:Hid (D=P++(x::(B1++(B2++Q)))):=by show D=P++(x::(B1++(B2++Q)));rw [← HD.out,←hB1,←hB2,←List.append_assoc (B.take (i - m)),List.take_append_drop]
   have HL1:Hid (B1.length=i - m∧m≤i∧i≤c∧P.length=a∧a+1=m∧a+1+B1.length+(B2++Q).length=N∧N≤1099511627776):=by
    refine⟨by rw [← hB1,List.length_take];have:=hHi.1;have:=hHi.2.2.1;omega,hHi.1,hHi.2.2.1,a1,by omega,?_,a5⟩
    rw [← hB1,←hB2,List.length_append,List.length_take,List.length_drop]
    have:=hHi.1;have:=hHi.2.2.1;omega
   rw [hB1,hB2]at HFIN
   have hiw:wrap64 ((i:Int) - 1)=((a+B1.length:Nat):Int):=by have:=HL1.out;unfold wrap64;omega
   have HIW:Hid (wrap64 ((i:Int) - 1)=((a+B1.length:Nat):Int)):=hiw
   have HCH2:Hid (Chg (fun k=>k=b) w wr):=HCHG.out
   have HRW2:Hid (RwE S wr b D r):=HROW.out
   clear hiw hHi hlo hhi hfin a1 a2 a3 a4 a5 a6 a7 a8 hB1 hB2 HH HGK HMO HXA HDB HD HALL HCHG HROW hclo hlt
   go_upto_region 8 with fail
   go_wp2
   obtain⟨V,hV⟩:∃V:World,V=wr:=⟨_,rfl⟩
   rw [← hV]at HRW2 HCH2
   rw [← hV]
   clear hV
   go_loopg [13] B1.length (fun gk2 v wr2=>∃t:Nat,B1.length - t=gk2∧t≤B1.length∧v=.int .i64 ((a+t:Nat):Int)∧RwE S wr2 b (P++(B1.take t++x::(B1.drop t++(B2++Q)))) r∧Chg (fun k=>k=b) w wr2)
   case atStart=>exact⟨0,by omega,by omega,rfl,by have:=HRW2.out;rw [HBB.out]at this;exact this,HCH2.out⟩
   case round=>
    obtain⟨t,htk,htl,rfl,hrow,hchg⟩:=hrel
    have HROW:Hid (RwE S wr b (P++(B1.take t++x::(B1.drop t++(B2++Q)))) r):=hrow
    have HCHG:Hid (Chg (fun k=>k=b) w wr):=hchg
    have HTT:Hid (B1.length - t=gk∧t≤B1.length):=⟨htk,htl⟩
    clear htk htl hrow hchg HRW2 HCH2
    by_cases ht:t<B1.length
    ·obtain ⟨p,hp⟩:∃p,a+t=p:=⟨_,rfl⟩
     obtain⟨q,hq⟩:∃q,p+1=q:=⟨_,rfl⟩
     obtain⟨y,hy⟩:∃y,B1[t]?=some y:=⟨_,List.getElem?_eq_getElem ht⟩
     have HLEN2:Hid ((P++(B1.take t++x::(B1.drop t++(B2++Q)))).length=N):=by
      show (P++(B1.take t++x::(B1.drop t++(B2++Q)))).length=N
      have:=HL1.out
      simp only [List.length_append,List.length_cons,List.length_take,List.length_drop]at *;omega
     have hqN:q<N:=by have:=HL1.out;omega
     have hpN:p<N:=by omega
     have hpN':(p:Int)<N:=by omega
     have hqN':(q:Int)<N:=by omega
     have HWQ:Hid (IntKind.i64.wrap ((p:Int)+1)=(q:Int)):=by
      show IntKind.i64.wrap ((p:Int)+1)=(q:Int)
      have:=HL1.out
      rw [IntKind.wrap_i64];omega
     have HWR:Hid (wrap64 ((p:Int)+1)=((a+(t+1):Nat):Int)):=by
      show wrap64 ((p:Int)+1)=((a+(t+1):Nat):Int)
      have:=HL1.out
      unfold wrap64;omega
     have HX:Hid ((P++(B1.take t++x::(B1.drop t++(B2++Q))))[p]?=some x):=by
      show (P++(B1.take t++x::(B1.drop t++(B2++Q))))[p]?=some x
      rw [← List.append_assoc]
      refine get_app _ _ _ _ ?_
      have:=HL1.out
      simp;omega
     have HY:Hid ((P++(B1.take t++x::(B1.drop t++(B2++Q))))[q]?=some y):=by
      show (P++(B1.take t++x::(B1.drop t++(B2++Q))))[q]?=some y
      obtain⟨h1,h2⟩:=List.getElem?_eq_some_iff.1 hy
      rw [List.drop_eq_getElem_cons h1,h2,show P++(B1.take t++x::(y::B1.drop (t+1)++(B2++Q)))=(P++(B1.take t++ [x]))++y::(B1.drop (t+1)++(B2++Q)) by simp]
      refine get_app _ _ _ _ ?_
      have:=HL1.out
      simp;omega
     have HSW:Hid (swapE (P++(B1.take t++x::(B1.drop t++(B2++Q)))) p q=P++(B1.take (t+1)++x::(B1.drop (t+1)++(B2++Q)))):=by
      show swapE (P++(B1.take t++x::(B1.drop t++(B2++Q)))) p q=P++(B1.take (t+1)++x::(B1.drop (t+1)++(B2++Q)))
      have:=swap_right P B1 (B2++Q) x (t:=t) ht
      have e:=HL1.out
      rw [show P.length+t=p by omega,hq]at this
      exact this
     have HTL:Hid (t<B1.length):=ht
     have hcond:(p:Int)<wrap64 ((i:Int) - 1):=by rw [HIW.out];omega
     simp only [hp]
     clear hy ht
     generalize P++(B1.take t++x::(B1.drop t++(B2++Q)))=DD at *
     obtain⟨x0,x1,x2⟩:=HROW.out.at HX.out
     obtain⟨y0,y1,y2⟩:=HROW.out.at HY.out
     have f0:=HROW.out.free (p*3)
     have f1:=HROW.out.free (p*3+1)
     have f2:=HROW.out.free (p*3+2)
     clear hp hq
     go_upto_region 11 with fail
     clear hcond
     have wq:=HWQ.out
     refine wp_region_last (S:=(fun _:World=>True)) (L:=99) (by kernel_rfl) ?_
     refine tk 0 trivial (h:=?_)
     refine tk 1 trivial (h:=?_)
     refine tk 2 trivial (h:=?_)
     refine tk 3 trivial (h:=?_)
     refine tk 4 trivial (h:=?_)
     refine tk 5 trivial (h:=?_)
     refine tk 6 trivial (h:=?_)
     refine tk 7 trivial (h:=?_)
     refine tk 8 trivial (h:=?_)
     refine tk 10 trivial (h:=?_)
     refine tk 11 trivial (h:=?_)
     refine tk 12 trivial (h:=?_)
     refine last_few (i:=9) (l:= [13]) (by kernel_rfl) (List.forall_mem_cons.2 ⟨⟨_,rfl,?h9n33⟩,List.forall_mem_cons.2 ⟨⟨_,rfl,?h13n33⟩,List.forall_mem_nil _⟩⟩)
     case h9n33=>
      intro K hK
      go_simp
      refine hK.out _ _ (fun _=>trivial) (fun _=>?_)
      clear hK K
      refine last_one (i:=13) (by kernel_rfl) rfl ?_
      intro K hK
      go_simp
      refine hK.out _ _ (fun _=>trivial) (fun _=>?_)
      clear hK K
      refine tk 14 trivial (h:=?_)
      refine last_one (i:=15) (by kernel_rfl) rfl ?_
      intro K hK
      go_simp
      obtain⟨V,hV⟩:∃V,(((wr.setCell ⟨b,p*3,none⟩ (.int .i64 y.tm)).setCell ⟨b,p*3+1,none⟩ (.bool y.tk)).setCell ⟨b,p*3+2,none⟩ (.slice (S.so y.jx) (S.sl y.jx) (S.sc y.jx))).drew=V:=⟨_,rfl⟩
      have HV:Hid (RwE S V b (DD.set p y) r):=by show RwE S V b (DD.set p y) r;rw [← hV];exact RwE.below (drew_below _) (RwE.set HROW.out p y (List.getElem?_eq_some_iff.1 HX.out).1)
      have CV:Hid (Chg (fun k=>k=b) wr V):=by show Chg (fun k=>k=b) wr V;rw [← hV];exact((((Chg.refl (fun k=>k=b) wr).setCell ⟨b,_,none⟩ _ (.inl rfl)).setCell ⟨b,_,none⟩ _ (.inl rfl)).setCell ⟨b,_,none⟩ _ (.inl rfl)).drew
      rw [hV]
      clear hV x0 x1 x2 y0 y1 y2 f0 f1 f2
      obtain⟨y',hy'⟩:∃y',(DD.set p y)[q]?=some y':=⟨_,List.getElem?_eq_getElem (by rw [List.length_set];exact(List.getElem?_eq_some_iff.1 HY.out).1)⟩
      obtain⟨z0,z1,z2⟩:=HV.out.at hy'
      have g0:=HV.out.free (q*3)
      have g1:=HV.out.free (q*3+1)
      have g2:=HV.out.free (q*3+2)
      clear hy'
      refine hK.out _ _ (fun _=>trivial) (fun _=>?_)
      clear hK K
      refine tk 16 trivial (h:=?_)
      refine last_one (i:=17) (by kernel_rfl) rfl ?_
      intro K hK
      go_simp
      obtain⟨Z,hZ⟩:∃Z,((V.setCell ⟨b,q*3,none⟩ (.int .i64 x.tm)).setCell ⟨b,q*3+1,none⟩ (.bool x.tk)).setCell ⟨b,q*3+2,none⟩ (.slice (S.so x.jx) (S.sl x.jx) (S.sc x.jx))=Z:=⟨_,rfl⟩
      have HZ:Hid (RwE S Z b (swapE DD p q) r):=by show RwE S Z b (swapE DD p q) r;rw [← hZ,swapE_at HX.out HY.out];exact RwE.set HV.out q x (by rw [List.length_set];exact(List.getElem?_eq_some_iff.1 HY.out).1)
      have CZ:Hid (Chg (fun k=>k=b) wr Z):=by show Chg (fun k=>k=b) wr Z;rw [← hZ];exact((CV.out.setCell ⟨b,_,none⟩ _ (.inl rfl)).setCell ⟨b,_,none⟩ _ (.inl rfl)).setCell ⟨b,_,none⟩ _ (.inl rfl)
      rw [hZ]
      clear hZ z0 z1 z2 g0 g1 g2 HV CV
      refine hK.out _ _ (fun _=>trivial) (fun _=>?_)
      clear hK K
      refine last_done (by kernel_rfl) ?_ _
      clear wq
      go_wp2
      go_roundg (B1.length - (t+1))
      case measure=>have:=HTT.out;have:=HTL.out;omega
      case rel=>exact⟨t+1,rfl,by have:=HTL.out;omega,by rw [HWR.out],by rw [← HSW.out];exact HZ.out,HCHG.out.trans CZ.out (fun _ _ e=>e)⟩
     case h13n33=>
      intro K hK
      go_simp
      refine hK.out _ _ (fun _=>trivial) (fun _=>?_)
      clear hK K
      refine last_one (i:=9) (by kernel_rfl) rfl ?_
      intro K hK
      go_simp
      refine hK.out _ _ (fun _=>trivial) (fun _=>?_)
      clear hK K
      refine tk 14 trivial (h:=?_)
      refine last_one (i:=15) (by kernel_rfl) rfl ?_
      intro K hK
      go_simp
      obtain⟨V,hV⟩:∃V,(((wr.setCell ⟨b,p*3,none⟩ (.int .i64 y.tm)).setCell ⟨b,p*3+1,none⟩ (.bool y.tk)).setCell ⟨b,p*3+2,none⟩ (.slice (S.so y.jx) (S.sl y.jx) (S.sc y.jx))).drew=V:=⟨_,rfl⟩
      have HV:Hid (RwE S V b (DD.set p y) r):=by show RwE S V b (DD.set p y) r;rw [← hV];exact RwE.below (drew_below _) (RwE.set HROW.out p y (List.getElem?_eq_some_iff.1 HX.out).1)
      have CV:Hid (Chg (fun k=>k=b) wr V):=by show Chg (fun k=>k=b) wr V;rw [← hV];exact((((Chg.refl (fun k=>k=b) wr).setCell ⟨b,_,none⟩ _ (.inl rfl)).setCell ⟨b,_,none⟩ _ (.inl rfl)).setCell ⟨b,_,none⟩ _ (.inl rfl)).drew
      rw [hV]
      clear hV x0 x1 x2 y0 y1 y2 f0 f1 f2
      obtain⟨y',hy'⟩:∃y',(DD.set p y)[q]?=some y':=⟨_,List.getElem?_eq_getElem (by rw [List.length_set];exact(List.getElem?_eq_some_iff.1 HY.out).1)⟩
      obtain⟨z0,z1,z2⟩:=HV.out.at hy'
      have g0:=HV.out.free (q*3)
      have g1:=HV.out.free (q*3+1)
      have g2:=HV.out.free (q*3+2)
      clear hy'
      refine hK.out _ _ (fun _=>trivial) (fun _=>?_)
      clear hK K
      refine tk 16 trivial (h:=?_)
      refine last_one (i:=17) (by kernel_rfl) rfl ?_
      intro K hK
      go_simp
      obtain⟨Z,hZ⟩:∃Z,((V.setCell ⟨b,q*3,none⟩ (.int .i64 x.tm)).setCell ⟨b,q*3+1,none⟩ (.bool x.tk)).setCell ⟨b,q*3+2,none⟩ (.slice (S.so x.jx) (S.sl x.jx) (S.sc x.jx))=Z:=⟨_,rfl⟩
      have HZ:Hid (RwE S Z b (swapE DD p q) r):=by show RwE S Z b (swapE DD p q) r;rw [← hZ,swapE_at HX.out HY.out];exact RwE.set HV.out q x (by rw [List.length_set];exact(List.getElem?_eq_some_iff.1 HY.out).1)
      have CZ:Hid (Chg (fun k=>k=b) wr Z):=by show Chg (fun k=>k=b) wr Z;rw [← hZ];exact((CV.out.setCell ⟨b,_,none⟩ _ (.inl rfl)).setCell ⟨b,_,none⟩ _ (.inl rfl)).setCell ⟨b,_,none⟩ _ (.inl rfl)
      rw [hZ]
      clear hZ z0 z1 z2 g0 g1 g2 HV CV
      refine hK.out _ _ (fun _=>trivial) (fun _=>?_)
      clear hK K
      refine last_done (by kernel_rfl) ?_ _
      clear wq
      go_wp2
      go_roundg (B1.length - (t+1))
      case measure=>have:=HTT.out;have:=HTL.out;omega
      case rel=>exact⟨t+1,rfl,by have:=HTL.out;omega,by rw [HWR.out],by rw [← HSW.out];exact HZ.out,HCHG.out.trans CZ.out (fun _ _ e=>e)⟩
    ·obtain rfl:t=B1.length:=by have:=HTT.out;omega
     have hcond:¬((a+B1.length:Nat):Int)<wrap64 ((i:Int) - 1):=by rw [HIW.out];omega
     go_wp2
     refine bodyPost_ret (results_none rfl _ _ _) rfl ?_
     refine⟨rfl,⟨B1++x::B2,HFIN.out.2,HFIN.out.1,?_⟩,HCHG.out⟩
     have:=HROW.out
     rw [List.take_of_length_le (Nat.le_refl _),List.drop_eq_nil_of_le (Nat.le_refl _)]at this
     simpa using this
end Go.Proofs.YtceoibfliggalaaGreatDoor
namespace Go.Proofs.YtceoibfliggalaaGreatDoor
open Go.RowKit Wd Tr Cg Lg
set_option maxHeartbeats 2000000 in
set_option maxRecDepth 20000 in
theorem sym_right {S:Slx} {w:World} {b a m c N cap:Nat} {r:List Value} (P A Q:List Ev) (x:Ev) (hA:1<A.length) (ha:P.length=a) (hm:P.length+A.length=m) (hc:P.length+A.length+1=c)
  (hN:P.length+A.length+1+Q.length=N) (hsz:N≤1099511627776) (hs:SrtE A) (ho:AcrE A [x]) (hR:RwE S w b (P++(A++(x::Q))) r):
  Calls Tryz.prog 192 #[.slice (some ⟨b,0,none⟩) N cap,.int .i64 a,.int .i64 m,.int .i64 c,.func (.func 151) #[] #[]] w fun e w'=>e=.returned (.tuple #[])∧(∃C,C.Perm (A++ [x])∧SrtE C∧RwE S w' b (P++(C++Q)) r)∧Chg (fun k=>k=b) w w':=by
 have HALL:Hid (P.length=a∧P.length+A.length=m∧P.length+A.length+1=c∧P.length+A.length+1+Q.length=N∧N≤1099511627776∧SrtE A∧AcrE A [x]∧1<A.length):=⟨ha,hm,hc,hN,hsz,hs,ho,hA⟩
 have HR:Hid (RwE S w b (P++(A++(x::Q))) r):=hR
 obtain⟨D,hD⟩:∃D,P++(A++(x::Q))=D:=⟨_,rfl⟩
 have HD:Hid (P++(A++(x::Q))=D):=hD
 have HLD:Hid (D.length=N):=by show D.length=N;rw [← hD];simp;omega
 have HDB:Hid (∀k y,A[k]?=some y→D[a+k]?=some y):=by
  intro k y hk
  have h1:=(List.getElem?_eq_some_iff.1 hk).1
  rw [← hD,List.getElem?_append_right (by omega),List.getElem?_append_left (by omega)]
  rw [show a+k - P.length=k by omega]
  exact hk
 have HMO:Hid (Mono (fun k=> !decide (x.tm<tmE D k)) a m):=by
  intro k l h1 h2 h3 h4
  have h5:¬x.tm<tmE D l:=by simpa using h4
  show (!decide (x.tm<tmE D k))=true
  have:=tm_rise (P:=P) (A:=A) (Q:=x::Q) hs (k:=k) (l:=l) (by omega) h2 (by omega)
  rw [hD]at this
  rw [decide_eq_false (by omega)]
  rfl
 have HXA:Hid (D[m]?=some x):=by
  show D[m]?=some x
  rw [← hD,←List.append_assoc]
  exact get_app (P++A) Q x m (by rw [List.length_append];omega)
 rw [hD]at HR
 have h1:¬wrap64 ((m:Int) - (a:Int))=1:=by unfold wrap64;omega
 have h2:wrap64 ((c:Int) - (m:Int))=1:=by unfold wrap64;omega
 have HB0:Hid ((wrap64 ((m:Int) - (a:Int))==1)=false):=beq_eq_false_iff_ne.2 h1
 have hclo:=clo_any
 clear hA ha hm hc hN hsz hs ho hR hD
 go_enter Tryz.func192,Tryz.ntmps192
 go_wp2
 rw [HB0.out]
 clear h1 h2
 go_loopg [14,15] A.length (fun gk v1 v2 wr=>∃i j:Nat,j - i=gk∧v1=.int .i64 i∧v2=.int .i64 j∧Half (fun k=> !decide (x.tm<tmE D k)) a m i j∧RwE S wr b D r∧Chg (fun k=>k=b) w wr)
 case atStart=>exact⟨a,m,(by have:=HALL.out;omega),rfl,rfl,Half.start (by have:=HALL.out;omega),HR.out,Chg.refl _ _⟩
 case round=>
  obtain⟨i,j,hgk,rfl,rfl,hhalf,hrow,hchg⟩:=hrel
  have HROW:Hid (RwE S wr b D r):=hrow
  have HCHG:Hid (Chg (fun k=>k=b) w wr):=hchg
  have HH:Hid (Half (fun k=> !decide (x.tm<tmE D k)) a m i j):=hhalf
  have HGK:Hid (j - i=gk):=hgk
  clear hgk hhalf hrow hchg HR
  by_cases hlt:(i:Int)<(j:Int)
  ·obtain ⟨h,hh⟩:∃h,(i+j) / 2=h:=⟨_,rfl⟩
   have HHB:Hid (i≤h∧h<j∧h<N∧m<N∧(i+j) / 2=h):=by
    obtain⟨b1,b2,b3,_⟩:=HH.out
    obtain⟨a1,a2,a3,a4,a5,a6,a7,a8⟩:=HALL.out
    exact⟨by omega,by omega,by omega,by omega,hh⟩
   have hmid:wrap64 (IntKind.u64.wrap (wrap64 ((i:Int)+(j:Int))) / 2)=(h:Int):=by
    rw [mid_wrap i j (by obtain⟨b1,b2,b3,_⟩:=HH.out;obtain⟨a1,a2,a3,a4,a5,a6,a7,a8⟩:=HALL.out;omega),hh]
   have hhN':(h:Int)<N:=by clear hmid;have:=HHB.out;omega
   have haN':(m:Int)<N:=by clear hmid;have:=HHB.out;omega
   have hhN:h<N:=HHB.out.2.2.1
   have haN:m<N:=HHB.out.2.2.2.1
   obtain⟨y,hy⟩:∃y,D[h]?=some y:=⟨_,List.getElem?_eq_getElem (by rw [HLD.out];exact hhN)⟩
   obtain⟨x0,x1,x2⟩:=HROW.out.at HXA.out
   obtain⟨y0,y1,y2⟩:=HROW.out.at hy
   have HTY:Hid (tmE D h=y.tm):=tmE_at hy
   clear hy hh
   go_upto_region 17 with fail
   rw [hmid]
   clear hmid
   by_cases hxy:x.tm<y.tm
   ·have hcm:=cmp_lt hxy
    have HN:Hid (Half (fun k=> !decide (x.tm<tmE D k)) a m i h):=HH.out.down HMO.out HHB.out.1 HHB.out.2.1 (by show (!decide (x.tm<tmE D h))=false;rw [HTY.out,decide_eq_true hxy];rfl)
    clear hxy
    refine wp_region_last (S:=(fun x':World=>Below wr.heap.size wr x')) (L:=99) (by kernel_rfl) ?_
    have HSW0:(fun x':World=>Below wr.heap.size wr x') (wr.drew):=drew_below wr
    have HF:Hid (∀xx:World,(fun x':World=>Below wr.heap.size wr x') xx→_∧_∧_∧_∧_∧_∧True):=fun xx hSx=>⟨cellB hSx x0,cellB hSx x1,cellB hSx x2,cellB hSx y0,cellB hSx y1,cellB hSx y2,trivial⟩
    refine tk 0 HSW0 (h:=?_)
    refine tk 1 HSW0 (h:=?_)
    refine tk 2 HSW0 (h:=?_)
    refine tk 3 HSW0 (h:=?_)
    refine tk 4 HSW0 (h:=?_)
    refine tk 5 HSW0 (h:=?_)
    refine tk 6 HSW0 (h:=?_)
    refine tk 7 HSW0 (h:=?_)
    refine tk 8 HSW0 (h:=?_)
    refine last_one (i:=9) (by kernel_rfl) rfl ?_
    intro K hK
    go_simp
    go_at_call 151
    refine(hclo _ _ _ _ _ _ _ _ _ _ _).mono ?_
    rintro e Z1 ⟨rfl,bz1⟩
    have HSZ1:(fun x':World=>Below wr.heap.size wr x') Z1:=HSW0.trans (bz1.mono HSW0.size)
    go_simp
    refine hK.out _ _ (fun _=>HSZ1) (fun _=>?_)
    clear hK K HSW0
    refine tk 10 HSZ1 (h:=?_)
    try rw [hcm]
    refine tk 11 HSZ1 (h:=?_)
    refine last_done (by kernel_rfl) ?_ _
    have HB1:Hid (Below wr.heap.size wr Z1):=HSZ1
    clear HSZ1 bz1 x0 x1 x2 y0 y1 y2 hcm hclo
    go_wp2
    go_roundg (h - i)
    case measure=>have:=HGK.out;have:=HHB.out;omega
    case rel=>exact⟨i,h,rfl,rfl,rfl,HN.out,RwE.below HB1.out HROW.out,HCHG.out.trans (Chg.of_below HB1.out _) (fun _ _ e=>e)⟩
   ·have hcm:=cmp_ge (Int.not_lt.1 hxy)
    have HN:Hid (Half (fun k=> !decide (x.tm<tmE D k)) a m (h+1) j):=HH.out.up HMO.out HHB.out.1 HHB.out.2.1 (by show (!decide (x.tm<tmE D h))=true;rw [HTY.out,decide_eq_false hxy];rfl)
    have HW1:Hid (wrap64 ((h:Int)+1)=((h+1:Nat):Int)):=by show wrap64 ((h:Int)+1)=((h+1:Nat):Int);have:=HALL.out;unfold wrap64;omega
    clear hxy
    refine wp_region_last (S:=(fun x':World=>Below wr.heap.size wr x')) (L:=99) (by kernel_rfl) ?_
    have HSW0:(fun x':World=>Below wr.heap.size wr x') (wr.drew):=drew_below wr
    have HF:Hid (∀xx:World,(fun x':World=>Below wr.heap.size wr x') xx→_∧_∧_∧_∧_∧_∧True):=fun xx hSx=>⟨cellB hSx x0,cellB hSx x1,cellB hSx x2,cellB hSx y0,cellB hSx y1,cellB hSx y2,trivial⟩
    refine tk 0 HSW0 (h:=?_)
    refine tk 1 HSW0 (h:=?_)
    refine tk 2 HSW0 (h:=?_)
    refine tk 3 HSW0 (h:=?_)
    refine tk 4 HSW0 (h:=?_)
    refine tk 5 HSW0 (h:=?_)
    refine tk 6 HSW0 (h:=?_)
    refine tk 7 HSW0 (h:=?_)
    refine tk 8 HSW0 (h:=?_)
    refine last_one (i:=9) (by kernel_rfl) rfl ?_
    intro K hK
    go_simp
    go_at_call 151
    refine(hclo _ _ _ _ _ _ _ _ _ _ _).mono ?_
    rintro e Z1 ⟨rfl,bz1⟩
    have HSZ1:(fun x':World=>Below wr.heap.size wr x') Z1:=HSW0.trans (bz1.mono HSW0.size)
    go_simp
    refine hK.out _ _ (fun _=>HSZ1) (fun _=>?_)
    clear hK K HSW0
    refine tk 10 HSZ1 (h:=?_)
    try rw [hcm]
    refine tk 11 HSZ1 (h:=?_)
    refine last_done (by kernel_rfl) ?_ _
    have HB1:Hid (Below wr.heap.size wr Z1):=HSZ1
    clear HSZ1 bz1 x0 x1 x2 y0 y1 y2 hcm hclo
    go_wp2
    go_roundg (j - (h+1))
    case measure=>have:=HGK.out;have:=HHB.out;omega
    case rel=>exact⟨h+1,j,rfl,by rw [HW1.out],rfl,HN.out,RwE.below HB1.out HROW.out,HCHG.out.trans (Chg.of_below HB1.out _) (fun _ _ e=>e)⟩
  ·obtain rfl:i=j:=by have:=HH.out.2.1;omega
   obtain⟨a1,a2,a3,a4,a5,a6,a7,a8⟩:=HALL.out
   have hHi:=HH.out
   obtain⟨hlo,hhi⟩:=half_cut (A:=A) HH.out (fun y=> !decide (x.tm<y.tm)) (fun k y hk=>by simp only [tmE_at (HDB.out k y hk)]) (by omega)
   have hfin:=one_right a6 a7 (i:=i - a) (fun y hy=>by have:¬x.tm<y.tm:=(by simpa using hlo y hy);omega) (fun y hy=>by simpa using hhi y hy)
   have HFIN:Hid (SrtE (A.take (i - a)++x::A.drop (i - a))∧(A.take (i - a)++x::A.drop (i - a)).Perm (A++ [x])):=hfin
   obtain⟨A1,hA1⟩:∃A1,A.take (i - a)=A1:=⟨_,rfl⟩
   obtain⟨A2,hA2⟩:∃A2,A.drop (i - a)=A2:=⟨_,rfl⟩
   have HBB:Hid (D=(P++A1)++(A2++(x::Q))):=by show D=(P++A1)++(A2++(x::Q));rw [← HD.out,←hA1,←hA2,List.append_assoc P,←List.append_assoc (A.take (i - a)),List.take_append_drop]
   have HL1:Hid (A1.length=i - a∧a≤i∧i≤m∧(P++A1).length=i∧i+A2.length=m∧m+1+Q.length=N∧N≤1099511627776):=by
    have q1:=hHi.1
    have q2:=hHi.2.2.1
    refine⟨by rw [← hA1,List.length_take];omega,q1,q2,by rw [← hA1,List.length_append,List.length_take];omega,by rw [← hA2,List.length_drop];omega,by omega,a5⟩
   rw [hA1,hA2]at HFIN
   obtain⟨P2,hP2⟩:∃P2,P++A1=P2:=⟨_,rfl⟩
   have HP2:Hid (P++A1=P2):=hP2
   rw [hP2]at HBB HL1
   have HCH2:Hid (Chg (fun k=>k=b) w wr):=HCHG.out
   have HRW2:Hid (RwE S wr b D r):=HROW.out
   clear hP2 hHi hlo hhi hfin a1 a2 a3 a4 a5 a6 a7 a8 hA1 hA2 HH HGK HMO HXA HDB HD HALL HCHG HROW hclo hlt
   go_upto_region 20 with fail
   go_wp2
   obtain⟨V,hV⟩:∃V:World,V=wr:=⟨_,rfl⟩
   rw [← hV]at HRW2 HCH2
   rw [← hV]
   clear hV
   go_loopg [17] A2.length (fun gk2 v wr2=>∃t:Nat,t=gk2∧t≤A2.length∧v=.int .i64 ((i+t:Nat):Int)∧RwE S wr2 b (P2++(A2.take t++x::(A2.drop t++Q))) r∧Chg (fun k=>k=b) w wr2)
   case atStart=>exact⟨A2.length,rfl,Nat.le_refl _,by rw [HL1.out.2.2.2.2.1],by have:=HRW2.out;rw [HBB.out]at this;rw [List.take_of_length_le (Nat.le_refl _),List.drop_eq_nil_of_le (Nat.le_refl _)];exact this,HCH2.out⟩
   case round=>
    obtain⟨t,htk,htl,rfl,hrow,hchg⟩:=hrel
    have HROW:Hid (RwE S wr b (P2++(A2.take t++x::(A2.drop t++Q))) r):=hrow
    have HCHG:Hid (Chg (fun k=>k=b) w wr):=hchg
    have HTT:Hid (t=gk∧t≤A2.length):=⟨htk,htl⟩
    clear htk htl hrow hchg HRW2 HCH2
    rcases t with _ | t
    ·have hcond:¬((i:Int)<((i+0:Nat):Int)):=by omega
     go_wp2
     refine bodyPost_ret (results_none rfl _ _ _) rfl ?_
     refine⟨rfl,⟨A1++x::A2,HFIN.out.2,HFIN.out.1,?_⟩,HCHG.out⟩
     have:=HROW.out
     rw [← HP2.out]at this
     simpa using this
    ·have ht:t<A2.length:=by have:=HTT.out.2;omega
     obtain⟨p,hp⟩:∃p,i+(t+1)=p:=⟨_,rfl⟩
     obtain⟨q,hq⟩:∃q,i+t=q:=⟨_,rfl⟩
     obtain⟨y,hy⟩:∃y,A2[t]?=some y:=⟨_,List.getElem?_eq_getElem ht⟩
     have HLEN2:Hid ((P2++(A2.take (t+1)++x::(A2.drop (t+1)++Q))).length=N):=by
      show (P2++(A2.take (t+1)++x::(A2.drop (t+1)++Q))).length=N
      have:=HL1.out
      simp only [List.length_append,List.length_cons,List.length_take,List.length_drop]at *;omega
     have hpN:p<N:=by have:=HL1.out;omega
     have hqN:q<N:=by omega
     have hpN':(p:Int)<N:=by omega
     have hqN':(q:Int)<N:=by omega
     have HWQ:Hid (IntKind.i64.wrap ((p:Int) - 1)=(q:Int)):=by
      show IntKind.i64.wrap ((p:Int) - 1)=(q:Int)
      have:=HL1.out
      rw [IntKind.wrap_i64];omega
     have HWR:Hid (wrap64 ((p:Int) - 1)=((i+t:Nat):Int)):=by
      show wrap64 ((p:Int) - 1)=((i+t:Nat):Int)
      have:=HL1.out
      unfold wrap64;omega
     have HX:Hid ((P2++(A2.take (t+1)++x::(A2.drop (t+1)++Q)))[p]?=some x):=by
      show (P2++(A2.take (t+1)++x::(A2.drop (t+1)++Q)))[p]?=some x
      rw [← List.append_assoc]
      refine get_app _ _ _ _ ?_
      have:=HL1.out
      simp;omega
     have HY:Hid ((P2++(A2.take (t+1)++x::(A2.drop (t+1)++Q)))[q]?=some y):=by
      show (P2++(A2.take (t+1)++x::(A2.drop (t+1)++Q)))[q]?=some y
      have:=HL1.out
      rw [List.getElem?_append_right (by omega),List.getElem?_append_left (by simp;omega),List.getElem?_take_of_lt (by omega),show q - P2.length=t by omega]
      exact hy
     have HSW:Hid (swapE (P2++(A2.take (t+1)++x::(A2.drop (t+1)++Q))) p q=P2++(A2.take t++x::(A2.drop t++Q))):=by
      show swapE (P2++(A2.take (t+1)++x::(A2.drop (t+1)++Q))) p q=P2++(A2.take t++x::(A2.drop t++Q))
      have:=swap_left P2 A2 Q x (t:=t) ht
      have e:=HL1.out
      rw [show P2.length+t+1=p by omega,show P2.length+t=q by omega]at this
      exact this
     have hcond:(i:Int)<(p:Int):=by omega
     simp only [hp]
     clear hy ht
     generalize P2++(A2.take (t+1)++x::(A2.drop (t+1)++Q))=DD at *
     obtain⟨x0,x1,x2⟩:=HROW.out.at HX.out
     obtain⟨y0,y1,y2⟩:=HROW.out.at HY.out
     have f0:=HROW.out.free (p*3)
     have f1:=HROW.out.free (p*3+1)
     have f2:=HROW.out.free (p*3+2)
     clear hp hq
     go_upto_region 23 with fail
     have wq:=HWQ.out
     refine wp_region_last (S:=(fun _:World=>True)) (L:=99) (by kernel_rfl) ?_
     refine tk 0 trivial (h:=?_)
     refine tk 1 trivial (h:=?_)
     refine tk 2 trivial (h:=?_)
     refine tk 3 trivial (h:=?_)
     refine tk 4 trivial (h:=?_)
     refine tk 5 trivial (h:=?_)
     refine tk 6 trivial (h:=?_)
     refine tk 7 trivial (h:=?_)
     refine tk 8 trivial (h:=?_)
     refine tk 10 trivial (h:=?_)
     refine tk 11 trivial (h:=?_)
     refine tk 12 trivial (h:=?_)
     refine last_few (i:=9) (l:= [13]) (by kernel_rfl) (List.forall_mem_cons.2 ⟨⟨_,rfl,?h9n35⟩,List.forall_mem_cons.2 ⟨⟨_,rfl,?h13n35⟩,List.forall_mem_nil _⟩⟩)
     case h9n35=>
      intro K hK
      go_simp
      refine hK.out _ _ (fun _=>trivial) (fun _=>?_)
      clear hK K
      refine last_one (i:=13) (by kernel_rfl) rfl ?_
      intro K hK
      go_simp
      refine hK.out _ _ (fun _=>trivial) (fun _=>?_)
      clear hK K
      refine tk 14 trivial (h:=?_)
      refine last_one (i:=15) (by kernel_rfl) rfl ?_
      intro K hK
      go_simp
      obtain⟨V,hV⟩:∃V,(((wr.setCell ⟨b,p*3,none⟩ (.int .i64 y.tm)).setCell ⟨b,p*3+1,none⟩ (.bool y.tk)).setCell ⟨b,p*3+2,none⟩ (.slice (S.so y.jx) (S.sl y.jx) (S.sc y.jx))).drew=V:=⟨_,rfl⟩
      have HV:Hid (RwE S V b (DD.set p y) r):=by show RwE S V b (DD.set p y) r;rw [← hV];exact RwE.below (drew_below _) (RwE.set HROW.out p y (List.getElem?_eq_some_iff.1 HX.out).1)
      have CV:Hid (Chg (fun k=>k=b) wr V):=by show Chg (fun k=>k=b) wr V;rw [← hV];exact((((Chg.refl (fun k=>k=b) wr).setCell ⟨b,_,none⟩ _ (.inl rfl)).setCell ⟨b,_,none⟩ _ (.inl rfl)).setCell ⟨b,_,none⟩ _ (.inl rfl)).drew
      rw [hV]
      clear hV x0 x1 x2 y0 y1 y2 f0 f1 f2
      obtain⟨y',hy'⟩:∃y',(DD.set p y)[q]?=some y':=⟨_,List.getElem?_eq_getElem (by rw [List.length_set];exact(List.getElem?_eq_some_iff.1 HY.out).1)⟩
      obtain⟨z0,z1,z2⟩:=HV.out.at hy'
      have g0:=HV.out.free (q*3)
      have g1:=HV.out.free (q*3+1)
      have g2:=HV.out.free (q*3+2)
      clear hy'
      refine hK.out _ _ (fun _=>trivial) (fun _=>?_)
      clear hK K
      refine tk 16 trivial (h:=?_)
      refine last_one (i:=17) (by kernel_rfl) rfl ?_
      intro K hK
      go_simp
      obtain⟨Z,hZ⟩:∃Z,((V.setCell ⟨b,q*3,none⟩ (.int .i64 x.tm)).setCell ⟨b,q*3+1,none⟩ (.bool x.tk)).setCell ⟨b,q*3+2,none⟩ (.slice (S.so x.jx) (S.sl x.jx) (S.sc x.jx))=Z:=⟨_,rfl⟩
      have HZ:Hid (RwE S Z b (swapE DD p q) r):=by show RwE S Z b (swapE DD p q) r;rw [← hZ,swapE_at HX.out HY.out];exact RwE.set HV.out q x (by rw [List.length_set];exact(List.getElem?_eq_some_iff.1 HY.out).1)
      have CZ:Hid (Chg (fun k=>k=b) wr Z):=by show Chg (fun k=>k=b) wr Z;rw [← hZ];exact((CV.out.setCell ⟨b,_,none⟩ _ (.inl rfl)).setCell ⟨b,_,none⟩ _ (.inl rfl)).setCell ⟨b,_,none⟩ _ (.inl rfl)
      rw [hZ]
      clear hZ z0 z1 z2 g0 g1 g2 HV CV
      refine hK.out _ _ (fun _=>trivial) (fun _=>?_)
      clear hK K
      refine last_done (by kernel_rfl) ?_ _
      clear wq
      go_wp2
      go_roundg t
      case measure=>have:=HTT.out;omega
      case rel=>exact⟨t,rfl,by have:=HTT.out;omega,by rw [HWR.out],by rw [← HSW.out];exact HZ.out,HCHG.out.trans CZ.out (fun _ _ e=>e)⟩
     case h13n35=>
      intro K hK
      go_simp
      refine hK.out _ _ (fun _=>trivial) (fun _=>?_)
      clear hK K
      refine last_one (i:=9) (by kernel_rfl) rfl ?_
      intro K hK
      go_simp
      refine hK.out _ _ (fun _=>trivial) (fun _=>?_)
      clear hK K
      refine tk 14 trivial (h:=?_)
      refine last_one (i:=15) (by kernel_rfl) rfl ?_
      intro K hK
      go_simp
      obtain⟨V,hV⟩:∃V,(((wr.setCell ⟨b,p*3,none⟩ (.int .i64 y.tm)).setCell ⟨b,p*3+1,none⟩ (.bool y.tk)).setCell ⟨b,p*3+2,none⟩ (.slice (S.so y.jx) (S.sl y.jx) (S.sc y.jx))).drew=V:=⟨_,rfl⟩
      have HV:Hid (RwE S V b (DD.set p y) r):=by show RwE S V b (DD.set p y) r;rw [← hV];exact RwE.below (drew_below _) (RwE.set HROW.out p y (List.getElem?_eq_some_iff.1 HX.out).1)
      have CV:Hid (Chg (fun k=>k=b) wr V):=by show Chg (fun k=>k=b) wr V;rw [← hV];exact((((Chg.refl (fun k=>k=b) wr).setCell ⟨b,_,none⟩ _ (.inl rfl)).setCell ⟨b,_,none⟩ _ (.inl rfl)).setCell ⟨b,_,none⟩ _ (.inl rfl)).drew
      rw [hV]
      clear hV x0 x1 x2 y0 y1 y2 f0 f1 f2
      obtain⟨y',hy'⟩:∃y',(DD.set p y)[q]?=some y':=⟨_,List.getElem?_eq_getElem (by rw [List.length_set];exact(List.getElem?_eq_some_iff.1 HY.out).1)⟩
      obtain⟨z0,z1,z2⟩:=HV.out.at hy'
      have g0:=HV.out.free (q*3)
      have g1:=HV.out.free (q*3+1)
      have g2:=HV.out.free (q*3+2)
      clear hy'
      refine hK.out _ _ (fun _=>trivial) (fun _=>?_)
      clear hK K
      refine tk 16 trivial (h:=?_)
      refine last_one (i:=17) (by kernel_rfl) rfl ?_
      intro K hK
      go_simp
      obtain⟨Z,hZ⟩:∃Z,((V.setCell ⟨b,q*3,none⟩ (.int .i64 x.tm)).setCell ⟨b,q*3+1,none⟩ (.bool x.tk)).setCell ⟨b,q*3+2,none⟩ (.slice (S.so x.jx) (S.sl x.jx) (S.sc x.jx))=Z:=⟨_,rfl⟩
      have HZ:Hid (RwE S Z b (swapE DD p q) r):=by show RwE S Z b (swapE DD p q) r;rw [← hZ,swapE_at HX.out HY.out];exact RwE.set HV.out q x (by rw [List.length_set];exact(List.getElem?_eq_some_iff.1 HY.out).1)
      have CZ:Hid (Chg (fun k=>k=b) wr Z):=by show Chg (fun k=>k=b) wr Z;rw [← hZ];exact((CV.out.setCell ⟨b,_,none⟩ _ (.inl rfl)).setCell ⟨b,_,none⟩ _ (.inl rfl)).setCell ⟨b,_,none⟩ _ (.inl rfl)
      rw [hZ]
      clear hZ z0 z1 z2 g0 g1 g2 HV CV
      refine hK.out _ _ (fun _=>trivial) (fun _=>?_)
      clear hK K
      refine last_done (by kernel_rfl) ?_ _
      clear wq
      go_wp2
      go_roundg t
      case measure=>have:=HTT.out;omega
      case rel=>exact⟨t,rfl,by have:=HTT.out;omega,by rw [HWR.out],by rw [← HSW.out];exact HZ.out,HCHG.out.trans CZ.out (fun _ _ e=>e)⟩
end Go.Proofs.YtceoibfliggalaaGreatDoor
namespace Go.Proofs.YtceoibfliggalaaGreatDoor
open Go.RowKit Wd Tr Cg Lg
set_option maxHeartbeats 1000000 in
set_option maxRecDepth 20000 in
theorem rotate_any {S:Slx} {w:World} {b a m c N cap:Nat} {r:List Value} {fv:Value} (P A B Q:List Ev) (hA:0<A.length) (hB:0<B.length) (ha:P.length=a) (hm:P.length+A.length=m) (hc:P.length+A.length+B.length=c)
  (hN:(P++(A++(B++Q))).length=N) (hsz:N≤1099511627776) (hR:RwE S w b (P++(A++(B++Q))) r):
  Calls Tryz.prog 197 #[.slice (some ⟨b,0,none⟩) N cap,.int .i64 a,.int .i64 m,.int .i64 c,fv] w fun e w'=>e=.returned (.tuple #[])∧RwE S w' b (P++(B++(A++Q))) r∧Chg (fun k=>k=b) w w':=by
 have hN':P.length+A.length+B.length+Q.length=N:=by simp at hN;omega
 have HALL:Hid (P.length+A.length+B.length+Q.length=N∧N≤1099511627776∧P.length+A.length=m):=⟨hN',hsz,hm⟩
 have HR:Hid (RwE S w b (P++(A++(B++Q))) r):=hR
 have HW1:Hid (wrap64 ((m:Int) - (a:Int))=(A.length:Int)):=by show wrap64 ((m:Int) - (a:Int))=(A.length:Int);rw [wrapS m a (by omega) (by omega)];congr 1;omega
 have HI0:Hid (0<A.length∧0<B.length):=⟨hA,hB⟩
 have HW2:Hid (wrap64 ((c:Int) - (m:Int))=(B.length:Int)):=by show wrap64 ((c:Int) - (m:Int))=(B.length:Int);rw [wrapS c m (by omega) (by omega)];congr 1;omega
 clear hA hB ha hm hc hN hN' hsz hR
 obtain⟨T,hT⟩:∃T,P++(B++(A++Q))=T:=⟨_,rfl⟩
 have HT:Hid (P++(B++(A++Q))=T):=hT
 rw [hT]
 clear hT
 go_enter Tryz.func197,Tryz.ntmps197
 go_wp2
 go_loopg [10,11] (A.length+B.length) (fun gk v1 v2 wr=>∃(i j:Nat) (P' X Y Q':List Ev),i+j=gk∧v1=.int .i64 i∧v2=.int .i64 j∧0<i∧0<j∧X.length=i∧Y.length=j∧P'.length+i=m∧P'.length+i+j+Q'.length=N∧RwE S wr b (P'++(X++(Y++Q'))) r∧P'++(Y++(X++Q'))=T∧Chg (fun k=>k=b) w wr)
 case atStart=>exact⟨A.length,B.length,P,A,B,Q,rfl,by rw [HW1.out],by rw [HW2.out],HI0.out.1,HI0.out.2,rfl,rfl,HALL.out.2.2,HALL.out.1,HR.out,HT.out,Chg.refl _ _⟩
 case round=>
  obtain⟨i,j,P',X,Y,Q',hgk,rfl,rfl,hi,hj,hX,hY,hPm,hPN,hrow,hT,hchg⟩:=hrel
  have HROW:Hid (RwE S wr b (P'++(X++(Y++Q'))) r):=hrow
  have HT2:Hid (P'++(Y++(X++Q'))=T):=hT
  have HCHG:Hid (Chg (fun k=>k=b) w wr):=hchg
  have HF:Hid (i+j=gk∧0<i∧0<j∧X.length=i∧Y.length=j∧P'.length+i=m∧P'.length+i+j+Q'.length=N∧N≤1099511627776):=⟨hgk,hi,hj,hX,hY,hPm,hPN,HALL.out.2.1⟩
  clear hrow hT hchg hgk hi hj hX hY hPm hPN
  obtain⟨u,hu⟩:∃u,m - i=u:=⟨_,rfl⟩
  have HW1:Hid (wrap64 ((m:Int) - (i:Int))=(u:Int)):=by
   show wrap64 ((m:Int) - (i:Int))=(u:Int)
   obtain⟨a1,a2,a3,a4,a5,a6,a7,a8⟩:=HF.out
   rw [wrapS m i (by omega) (by omega),hu]
  have HU:Hid (P'.length=u):=by
   show P'.length=u
   obtain⟨a1,a2,a3,a4,a5,a6,a7,a8⟩:=HF.out
   omega
  clear hu
  rcases Nat.lt_trichotomy i j with hij | hij | hij
  ·-- i<j
   obtain⟨v,hv⟩:∃v,m+j - i=v:=⟨_,rfl⟩
   have HV:Hid (u+i+(j - i)=v):=by
    show u+i+(j - i)=v
    have:=HU.out
    obtain⟨a1,a2,a3,a4,a5,a6,a7,a8⟩:=HF.out
    omega
   have HW2:Hid (wrap64 ((m:Int)+(j:Int))=((m+j:Nat):Int)):=by
    show wrap64 ((m:Int)+(j:Int))=((m+j:Nat):Int)
    obtain⟨a1,a2,a3,a4,a5,a6,a7,a8⟩:=HF.out
    exact wrapA m j (by omega)
   have HW3:Hid (wrap64 (((m+j:Nat):Int) - (i:Int))=(v:Int)):=by
    show wrap64 (((m+j:Nat):Int) - (i:Int))=(v:Int)
    obtain⟨a1,a2,a3,a4,a5,a6,a7,a8⟩:=HF.out
    rw [wrapS (m+j) i (by omega) (by omega),hv]
   have HW4:Hid (wrap64 ((j:Int) - (i:Int))=((j - i:Nat):Int)):=by
    show wrap64 ((j:Int) - (i:Int))=((j - i:Nat):Int)
    obtain⟨a1,a2,a3,a4,a5,a6,a7,a8⟩:=HF.out
    exact wrapS j i (by omega) (by omega)
   have HC:Hid (∀fv,Calls Tryz.prog 200 #[.slice (some ⟨b,0,none⟩) N cap,.int .i64 (wrap64 ((m:Int) - (i:Int))),.int .i64 (wrap64 (wrap64 ((m:Int)+(j:Int)) - (i:Int))),.int .i64 i,fv] wr fun e w'=>e=.returned (.tuple #[])∧RwE S w' b (P'++(Y.drop (j - i)++(Y.take (j - i)++(X++Q')))) r∧Chg (fun k=>k=b) wr w'):=by
    intro fv
    rw [HW2.out,HW3.out,HW1.out]
    have h1:=HU.out
    have h2:=HV.out
    obtain⟨a1,a2,a3,a4,a5,a6,a7,a8⟩:=HF.out
    have e:P'++(X++(Y++Q'))=P'++(X++(Y.take (j - i)++(Y.drop (j - i)++Q'))):=by
     rw [← List.append_assoc (Y.take (j - i)),List.take_append_drop]
    refine swapRange_any P' X (Y.take (j - i)) (Y.drop (j - i)) Q' a4 (by rw [List.length_drop];omega) h1 (by rw [List.length_take];omega) ?_ a8 ?_
    ·rw [← e];simp;omega
    ·rw [← e];exact HROW.out
   have hneq:¬i=j:=by omega
   have hneq':¬(i:Int)=(j:Int):=by omega
   have hnlt:¬(j:Int)<(i:Int):=by omega
   have hnlt2:(i:Int)≤(j:Int):=by omega
   have hgt:decide ((i:Int)>(j:Int))=false:=decide_eq_false (by omega)
   clear hv
   go_wp2_with (go_at_call 200;refine(HC.out _).mono ?_;rintro e w1 ⟨rfl,hR1,hc1⟩)
   go_roundg (i+(j - i))
   case measure=>have:=HF.out;omega
   case rel=>
    obtain⟨a1,a2,a3,a4,a5,a6,a7,a8⟩:=HF.out
    refine⟨i,j - i,P',Y.drop (j - i),Y.take (j - i),X++Q',rfl,rfl,by rw [HW4.out],a2,by omega,by rw [List.length_drop];omega,by rw [List.length_take];omega,a6,by rw [List.length_append];omega,hR1,?_,HCHG.out.trans hc1 (fun _ _ e=>e)⟩
    rw [← List.append_assoc (Y.take (j - i)),List.take_append_drop]
    exact HT2.out
  ·subst hij
   have HC:Hid (∀fv,Calls Tryz.prog 200 #[.slice (some ⟨b,0,none⟩) N cap,.int .i64 (wrap64 ((m:Int) - (i:Int))),.int .i64 m,.int .i64 i,fv] wr fun e w'=>e=.returned (.tuple #[])∧RwE S w' b (P'++(Y++([]++(X++Q')))) r∧Chg (fun k=>k=b) wr w'):=by
    intro fv
    rw [HW1.out]
    have h1:=HU.out
    obtain⟨a1,a2,a3,a4,a5,a6,a7,a8⟩:=HF.out
    refine swapRange_any P' X [] Y Q' a4 a5 h1 (by simp;omega) (by simp;omega) a8 ?_
    simpa using HROW.out
   go_wp2_with (go_at_call 200;refine(HC.out _).mono ?_;rintro e w1 ⟨rfl,hR1,hc1⟩)
   go_end0
   refine⟨rfl,?_,HCHG.out.trans hc1 (fun _ _ e=>e)⟩
   rw [← HT2.out]
   simpa using hR1
  ·have HW4:Hid (wrap64 ((i:Int) - (j:Int))=((i - j:Nat):Int)):=by
    show wrap64 ((i:Int) - (j:Int))=((i - j:Nat):Int)
    obtain⟨a1,a2,a3,a4,a5,a6,a7,a8⟩:=HF.out
    exact wrapS i j (by omega) (by omega)
   have HC:Hid (∀fv,Calls Tryz.prog 200 #[.slice (some ⟨b,0,none⟩) N cap,.int .i64 (wrap64 ((m:Int) - (i:Int))),.int .i64 m,.int .i64 j,fv] wr fun e w'=>e=.returned (.tuple #[])∧RwE S w' b (P'++(Y++(X.drop j++(X.take j++Q')))) r∧Chg (fun k=>k=b) wr w'):=by
    intro fv
    rw [HW1.out]
    have h1:=HU.out
    obtain⟨a1,a2,a3,a4,a5,a6,a7,a8⟩:=HF.out
    have e:P'++(X++(Y++Q'))=P'++(X.take j++(X.drop j++(Y++Q'))):=by
     rw [← List.append_assoc (X.take j),List.take_append_drop]
    refine swapRange_any P' (X.take j) (X.drop j) Y Q' (by rw [List.length_take];omega) a5 h1 (by rw [List.length_drop];omega) ?_ a8 ?_
    ·rw [← e];simp;omega
    ·rw [← e];exact HROW.out
   have hneq:¬i=j:=by omega
   have hneq':¬(i:Int)=(j:Int):=by omega
   have hlt:(j:Int)<(i:Int):=by omega
   go_wp2_with (go_at_call 200;refine(HC.out _).mono ?_;rintro e w1 ⟨rfl,hR1,hc1⟩)
   go_roundg (i - j+j)
   case measure=>have:=HF.out;omega
   case rel=>
    have h1:=HU.out
    obtain⟨a1,a2,a3,a4,a5,a6,a7,a8⟩:=HF.out
    refine⟨i - j,j,P'++Y,X.drop j,X.take j,Q',rfl,by rw [HW4.out],rfl,by omega,a3,by rw [List.length_drop];omega,by rw [List.length_take];omega,by rw [List.length_append];omega,by rw [List.length_append];omega,by simpa using hR1,?_,HCHG.out.trans hc1 (fun _ _ e=>e)⟩
    rw [← HT2.out,List.append_assoc,←List.append_assoc (X.take j),List.take_append_drop]
end Go.Proofs.YtceoibfliggalaaGreatDoor
namespace Go.Proofs.YtceoibfliggalaaGreatDoor
open Go.RowKit Wd Tr Cg Lg
def SymP (L:Nat):Prop:=∀(S:Slx) (w:World) (b a m c N cap:Nat) (r:List Value) (P A B Q:List Ev),A.length+B.length≤L→0<A.length→0<B.length→P.length=a→P.length+A.length=m→P.length+A.length+B.length=c→
  P.length+A.length+B.length+Q.length=N→N≤1099511627776→SrtE A→SrtE B→AcrE A B→RwE S w b (P++(A++(B++Q))) r→
  Calls Tryz.prog 192 #[.slice (some ⟨b,0,none⟩) N cap,.int .i64 a,.int .i64 m,.int .i64 c,.func (.func 151) #[] #[]] w fun e w'=>e=.returned (.tuple #[])∧(∃C,C.Perm (A++B)∧SrtE C∧RwE S w' b (P++(C++Q)) r)∧Chg (fun k=>k=b) w w'
structure Bnd (a m c mid lo hi:Nat):Prop where
 am:a+2≤m
 mc:m+2≤c
 md:mid=(a+c) / 2
 cs:(mid<m∧lo=mid+m - c∧hi=mid)∨(m≤mid∧lo=a∧hi=m)
theorem Bnd.ok {a m c mid lo hi:Nat} (h:Bnd a m c mid lo hi):a≤lo∧lo≤hi∧hi≤m∧hi≤mid∧a<mid∧mid<c∧mid+m - lo≤c∧c≤mid+m - a+(c - a):=by
 obtain⟨h1,h2,h3,h4⟩:=h
 omega
set_option maxHeartbeats 4000000 in
set_option maxRecDepth 20000 in
theorem sym_both {L:Nat} (ih:SymP L) {S:Slx} {w:World} {b a m c N cap:Nat} {r:List Value} (P A B Q:List Ev) (hL:A.length+B.length≤L+1) (hA:1<A.length) (hB:1<B.length) (ha:P.length=a) (hm:P.length+A.length=m) (hc:P.length+A.length+B.length=c)
  (hN:P.length+A.length+B.length+Q.length=N) (hsz:N≤1099511627776) (hsA:SrtE A) (hsB:SrtE B) (ho:AcrE A B) (hR:RwE S w b (P++(A++(B++Q))) r):
  Calls Tryz.prog 192 #[.slice (some ⟨b,0,none⟩) N cap,.int .i64 a,.int .i64 m,.int .i64 c,.func (.func 151) #[] #[]] w fun e w'=>e=.returned (.tuple #[])∧(∃C,C.Perm (A++B)∧SrtE C∧RwE S w' b (P++(C++Q)) r)∧Chg (fun k=>k=b) w w':=by
 obtain⟨mid,hmd⟩:∃mid,(a+c) / 2=mid:=⟨_,rfl⟩
 obtain⟨n,hn⟩:∃n,mid+m=n:=⟨_,rfl⟩
 obtain⟨lo,hlo⟩:∃lo,(if mid<m then n - c else a)=lo:=⟨_,rfl⟩
 obtain⟨hi,hhi⟩:∃hi,(if mid<m then mid else m)=hi:=⟨_,rfl⟩
 have hbnd:Bnd a m c mid lo hi:=by
  refine⟨by omega,by omega,hmd.symm,?_⟩
  by_cases h:mid<m
  ·rw [if_pos h]at hlo hhi;left;omega
  ·rw [if_neg h]at hlo hhi;right;omega
 have HBN:Hid (Bnd a m c mid lo hi):=hbnd
 have HALL:Hid (P.length=a∧P.length+A.length=m∧P.length+A.length+B.length=c∧P.length+A.length+B.length+Q.length=N∧N≤1099511627776∧A.length+B.length≤L+1∧1<A.length∧1<B.length):=⟨ha,hm,hc,hN,hsz,hL,hA,hB⟩
 have HSS:Hid (SrtE A∧SrtE B∧AcrE A B):=⟨hsA,hsB,ho⟩
 have HIH:Hid (SymP L):=ih
 obtain⟨D,hD⟩:∃D,P++(A++(B++Q))=D:=⟨_,rfl⟩
 have HD:Hid (P++(A++(B++Q))=D):=hD
 have HLD:Hid (D.length=N):=by show D.length=N;rw [← hD];simp;omega
 have HDA:Hid (∀k y,A[k]?=some y→D[a+k]?=some y):=by
  intro k y hk
  have h1:=(List.getElem?_eq_some_iff.1 hk).1
  rw [← hD,List.getElem?_append_right (by omega),List.getElem?_append_left (by omega),show a+k - P.length=k by omega]
  exact hk
 have HDB:Hid (∀k y,B[k]?=some y→D[m+k]?=some y):=by
  intro k y hk
  have h1:=(List.getElem?_eq_some_iff.1 hk).1
  rw [← hD,List.getElem?_append_right (by omega),List.getElem?_append_right (by omega),List.getElem?_append_left (by omega),show m+k - P.length - A.length=k by omega]
  exact hk
 have HMO:Hid (Mono (fun k=> !decide (tmE D (n - 1 - k)<tmE D k)) lo hi):=by
  intro k l h1 h2 h3 h4
  have h5:¬tmE D (n - 1 - l)<tmE D l:=by simpa using h4
  show (!decide (tmE D (n - 1 - k)<tmE D k))=true
  have q:=hbnd.ok
  have e1:=tm_rise (P:=P) (A:=A) (Q:=B++Q) hsA (k:=k) (l:=l) (by omega) h2 (by omega)
  have e2:=tm_rise (P:=P++A) (A:=B) (Q:=Q) hsB (k:=n - 1 - l) (l:=n - 1 - k) (by rw [List.length_append];omega) (by omega) (by rw [List.length_append];omega)
  rw [List.append_assoc]at e2
  rw [hD]at e1 e2
  rw [decide_eq_false (by omega)]
  rfl
 have HR:Hid (RwE S w b D r):=by show RwE S w b D r;rw [← hD];exact hR
 have h1:¬wrap64 ((m:Int) - (a:Int))=1:=by unfold wrap64;omega
 have h2:¬wrap64 ((c:Int) - (m:Int))=1:=by unfold wrap64;omega
 have HB0:Hid ((wrap64 ((m:Int) - (a:Int))==1)=false∧(wrap64 ((c:Int) - (m:Int))==1)=false):=⟨beq_eq_false_iff_ne.2 h1,beq_eq_false_iff_ne.2 h2⟩
 have hclo:=clo_any
 have HMID:Hid (wrap64 (IntKind.u64.wrap (wrap64 ((a:Int)+(c:Int))) / 2)=(mid:Int)):=by
  show wrap64 (IntKind.u64.wrap (wrap64 ((a:Int)+(c:Int))) / 2)=(mid:Int)
  rw [mid_wrap a c (by clear h1 h2;omega),hmd]
 have HNN:Hid (wrap64 ((mid:Int)+(m:Int))=(n:Int)):=by
  show wrap64 ((mid:Int)+(m:Int))=(n:Int)
  rw [wrapA mid m (by clear h1 h2;omega),hn]
 have HNC:Hid (mid<m→wrap64 ((n:Int) - (c:Int))=((n - c:Nat):Int)):=by
  intro h
  exact wrapS n c (by clear h1 h2;have:=hbnd.ok;omega) (by clear h1 h2;omega)
 have HN1:Hid (wrap64 ((n:Int) - 1)=((n - 1:Nat):Int)):=by
  show wrap64 ((n:Int) - 1)=((n - 1:Nat):Int)
  exact wrapS n 1 (by clear h1 h2;have:=hbnd.ok;omega) (by clear h1 h2;omega)
 have HLH:Hid ((if mid<m then n - c else a)=lo∧(if mid<m then mid else m)=hi∧mid+m=n):=⟨hlo,hhi,hn⟩
 clear hL hA hB ha hm hc hN hsz hsA hsB ho hR hD hmd hn hlo hhi hbnd ih
 go_enter Tryz.func192,Tryz.ntmps192
 go_upto_region 25 with fail
 rw [HMID.out]
 go_upto_region 26 with fail
 rw [HNN.out]
 simp only [HB0.out.1,HB0.out.2]
 go_upto_region 27 with fail
 clear h1 h2
 obtain⟨bm,hbm⟩:∃bm,decide (mid<m)=bm:=⟨_,rfl⟩
 have HBM:Hid (decide (mid<m)=bm):=hbm
 clear hbm
 go_cut [140] (fun v x=>v=.bool bm∧w=x)
 case first=>
  as_aux_lemma=>
   go_wp2
   go_meet
   exact⟨by rw [← HBM.out],rfl⟩
 case rest=>
 obtain⟨rfl,hx⟩:=hcut
 rw [← hx]
 clear hx
 go_upto_if 140 with fail
 go_cut [20,21] (fun v1 v2 x=>v1=.int .i64 lo∧v2=.int .i64 hi∧w=x)
 case first=>
  as_aux_lemma=>
   cases bm with
   | true=>
    have hmm:=of_decide_eq_true HBM.out
    have e1:=HLH.out.1
    have e2:=HLH.out.2.1
    rw [if_pos hmm]at e1 e2
    have HE:Hid (n - c=lo∧mid=hi):=⟨e1,e2⟩
    have HWC:Hid (wrap64 ((n:Int) - (c:Int))=((n - c:Nat):Int)):=HNC.out hmm
    clear e1 e2
    go_wp2
    go_meet
    exact⟨by rw [HWC.out,HE.out.1],by rw [HE.out.2],rfl⟩
   | false=>
    have hmm:=of_decide_eq_false HBM.out
    have e1:=HLH.out.1
    have e2:=HLH.out.2.1
    rw [if_neg hmm]at e1 e2
    have HE:Hid (a=lo∧m=hi):=⟨e1,e2⟩
    clear e1 e2
    go_wp2
    go_meet
    exact⟨by rw [HE.out.1],by rw [HE.out.2],rfl⟩
 case rest=>
 obtain⟨rfl,rfl,hw⟩:=hcut
 obtain rfl:=hw
 as_aux_lemma=>
  go_upto_region 32 with fail
  go_wp2
  rw [HN1.out]
  go_loopg [20,21] (hi - lo) (fun gk v1 v2 wr=>∃i j:Nat,j - i=gk∧v1=.int .i64 i∧v2=.int .i64 j∧Half (fun k=> !decide (tmE D (n - 1 - k)<tmE D k)) lo hi i j∧RwE S wr b D r∧Chg (fun k=>k=b) w wr)
  case atStart=>exact⟨lo,hi,rfl,rfl,rfl,Half.start HBN.out.ok.2.1,HR.out,Chg.refl _ _⟩
  case round=>
   obtain⟨i,j,hgk,rfl,rfl,hhalf,hrow,hchg⟩:=hrel
   have HROW:Hid (RwE S wr b D r):=hrow
   have HCHG:Hid (Chg (fun k=>k=b) w wr):=hchg
   have HH:Hid (Half (fun k=> !decide (tmE D (n - 1 - k)<tmE D k)) lo hi i j):=hhalf
   have HGK:Hid (j - i=gk):=hgk
   clear hgk hhalf hrow hchg HR
   by_cases hlt:(i:Int)<(j:Int)
   ·obtain ⟨h,hh⟩:∃h,(i+j) / 2=h:=⟨_,rfl⟩
    obtain⟨q,hq⟩:∃q,n - 1 - h=q:=⟨_,rfl⟩
    have HHB:Hid (i≤h∧h<j∧h<N∧q<N∧(i+j) / 2=h∧q+h=n - 1):=by
     obtain⟨b1,b2,b3,_⟩:=HH.out
     obtain⟨a1,a2,a3,a4,a5,a6,a7,a8⟩:=HALL.out
     have q1:=HBN.out.ok
     have q2:=HLH.out.2.2
     exact⟨by omega,by omega,by omega,by omega,hh,by omega⟩
    have HQ:Hid (IntKind.i64.wrap (((n - 1:Nat):Int) - (h:Int))=(q:Int)):=by
     show IntKind.i64.wrap (((n - 1:Nat):Int) - (h:Int))=(q:Int)
     have q3:=HHB.out
     rw [iwrapS (n - 1) h (by omega) (by have:=HALL.out;have:=HLH.out.2.2;omega),hq]
    have hmid:wrap64 (IntKind.u64.wrap (wrap64 ((i:Int)+(j:Int))) / 2)=(h:Int):=by
     rw [mid_wrap i j (by obtain⟨b1,b2,b3,_⟩:=HH.out;obtain⟨a1,a2,a3,a4,a5,a6,a7,a8⟩:=HALL.out;have q1:=HBN.out.ok;omega),hh]
    have hhN':(h:Int)<N:=by clear hmid;have:=HHB.out;omega
    have hqN':(q:Int)<N:=by clear hmid;have:=HHB.out;omega
    have hhN:h<N:=HHB.out.2.2.1
    have hqN:q<N:=HHB.out.2.2.2.1
    obtain⟨x,hx⟩:∃x,D[q]?=some x:=⟨_,List.getElem?_eq_getElem (by rw [HLD.out];exact hqN)⟩
    obtain⟨y,hy⟩:∃y,D[h]?=some y:=⟨_,List.getElem?_eq_getElem (by rw [HLD.out];exact hhN)⟩
    obtain⟨x0,x1,x2⟩:=HROW.out.at hx
    obtain⟨y0,y1,y2⟩:=HROW.out.at hy
    have HTY:Hid (tmE D h=y.tm∧tmE D (n - 1 - h)=x.tm):=⟨tmE_at hy,by rw [hq];exact tmE_at hx⟩
    clear hx hy hh hq
    go_upto_region 35 with fail
    rw [hmid]
    clear hmid
    have wq:=HQ.out
    by_cases hxy:x.tm<y.tm
    ·have hcm:=cmp_lt hxy
     have HN:Hid (Half (fun k=> !decide (tmE D (n - 1 - k)<tmE D k)) lo hi i h):=HH.out.down HMO.out HHB.out.1 HHB.out.2.1 (by show (!decide (tmE D (n - 1 - h)<tmE D h))=false;rw [HTY.out.1,HTY.out.2,decide_eq_true hxy];rfl)
     clear hxy
     as_aux_lemma=>
      refine wp_region_last (S:=(fun x':World=>Below wr.heap.size wr x')) (L:=99) (by kernel_rfl) ?_
      have HSW0:(fun x':World=>Below wr.heap.size wr x') (wr.drew):=drew_below wr
      have HF:Hid (∀xx:World,(fun x':World=>Below wr.heap.size wr x') xx→_∧_∧_∧_∧_∧_∧True):=fun xx hSx=>⟨cellB hSx x0,cellB hSx x1,cellB hSx x2,cellB hSx y0,cellB hSx y1,cellB hSx y2,trivial⟩
      refine tk 0 HSW0 (h:=?_)
      refine tk 1 HSW0 (h:=?_)
      refine tk 2 HSW0 (h:=?_)
      refine tk 3 HSW0 (h:=?_)
      refine tk 4 HSW0 (h:=?_)
      refine tk 5 HSW0 (h:=?_)
      refine tk 6 HSW0 (h:=?_)
      refine tk 7 HSW0 (h:=?_)
      refine tk 8 HSW0 (h:=?_)
      refine tk 9 HSW0 (h:=?_)
      refine tk 10 HSW0 (h:=?_)
      refine last_one (i:=11) (by kernel_rfl) rfl ?_
      intro K hK
      go_simp
      go_at_call 151
      refine(hclo _ _ _ _ _ _ _ _ _ _ _).mono ?_
      rintro e Z1 ⟨rfl,bz1⟩
      have HSZ1:(fun x':World=>Below wr.heap.size wr x') Z1:=HSW0.trans (bz1.mono HSW0.size)
      go_simp
      refine hK.out _ _ (fun _=>HSZ1) (fun _=>?_)
      clear hK K HSW0
      refine tk 12 HSZ1 (h:=?_)
      try rw [hcm]
      refine tk 13 HSZ1 (h:=?_)
      refine last_done (by kernel_rfl) ?_ _
      have HB1:Hid (Below wr.heap.size wr Z1):=HSZ1
      clear HSZ1 bz1 x0 x1 x2 y0 y1 y2 hcm hclo wq
      go_wp2
      go_roundg (h - i)
      case measure=>have:=HGK.out;have:=HHB.out;omega
      case rel=>exact⟨i,h,rfl,rfl,rfl,HN.out,RwE.below HB1.out HROW.out,HCHG.out.trans (Chg.of_below HB1.out _) (fun _ _ e=>e)⟩
    ·have hcm:=cmp_ge (Int.not_lt.1 hxy)
     have HN:Hid (Half (fun k=> !decide (tmE D (n - 1 - k)<tmE D k)) lo hi (h+1) j):=HH.out.up HMO.out HHB.out.1 HHB.out.2.1 (by show (!decide (tmE D (n - 1 - h)<tmE D h))=true;rw [HTY.out.1,HTY.out.2,decide_eq_false hxy];rfl)
     have HW1:Hid (wrap64 ((h:Int)+1)=((h+1:Nat):Int)):=by show wrap64 ((h:Int)+1)=((h+1:Nat):Int);have:=HALL.out;clear wq;unfold wrap64;omega
     clear hxy
     as_aux_lemma=>
      refine wp_region_last (S:=(fun x':World=>Below wr.heap.size wr x')) (L:=99) (by kernel_rfl) ?_
      have HSW0:(fun x':World=>Below wr.heap.size wr x') (wr.drew):=drew_below wr
      have HF:Hid (∀xx:World,(fun x':World=>Below wr.heap.size wr x') xx→_∧_∧_∧_∧_∧_∧True):=fun xx hSx=>⟨cellB hSx x0,cellB hSx x1,cellB hSx x2,cellB hSx y0,cellB hSx y1,cellB hSx y2,trivial⟩
      refine tk 0 HSW0 (h:=?_)
      refine tk 1 HSW0 (h:=?_)
      refine tk 2 HSW0 (h:=?_)
      refine tk 3 HSW0 (h:=?_)
      refine tk 4 HSW0 (h:=?_)
      refine tk 5 HSW0 (h:=?_)
      refine tk 6 HSW0 (h:=?_)
      refine tk 7 HSW0 (h:=?_)
      refine tk 8 HSW0 (h:=?_)
      refine tk 9 HSW0 (h:=?_)
      refine tk 10 HSW0 (h:=?_)
      refine last_one (i:=11) (by kernel_rfl) rfl ?_
      intro K hK
      go_simp
      go_at_call 151
      refine(hclo _ _ _ _ _ _ _ _ _ _ _).mono ?_
      rintro e Z1 ⟨rfl,bz1⟩
      have HSZ1:(fun x':World=>Below wr.heap.size wr x') Z1:=HSW0.trans (bz1.mono HSW0.size)
      go_simp
      refine hK.out _ _ (fun _=>HSZ1) (fun _=>?_)
      clear hK K HSW0
      refine tk 12 HSZ1 (h:=?_)
      try rw [hcm]
      refine tk 13 HSZ1 (h:=?_)
      refine last_done (by kernel_rfl) ?_ _
      have HB1:Hid (Below wr.heap.size wr Z1):=HSZ1
      clear HSZ1 bz1 x0 x1 x2 y0 y1 y2 hcm hclo wq
      go_wp2
      go_roundg (j - (h+1))
      case measure=>have:=HGK.out;have:=HHB.out;omega
      case rel=>exact⟨h+1,j,rfl,by rw [HW1.out],rfl,HN.out,RwE.below HB1.out HROW.out,HCHG.out.trans (Chg.of_below HB1.out _) (fun _ _ e=>e)⟩
   ·obtain rfl:i=j:=by have:=HH.out.2.1;omega
    obtain⟨e,he⟩:∃e,n - i=e:=⟨_,rfl⟩
    obtain⟨L1,hL1⟩:∃L1,A.take (i - a)=L1:=⟨_,rfl⟩
    obtain⟨L2,hL2⟩:∃L2,A.drop (i - a)=L2:=⟨_,rfl⟩
    obtain⟨R1,hR1⟩:∃R1,B.take (e - m)=R1:=⟨_,rfl⟩
    obtain⟨R2,hR2⟩:∃R2,B.drop (e - m)=R2:=⟨_,rfl⟩
    have hpos:lo≤i∧i≤hi∧a≤i∧i≤m∧i≤mid∧m≤e∧e≤c∧e+i=n∧mid+m=n∧a<mid∧mid<c:=by
     obtain⟨b1,b2,b3,_⟩:=HH.out
     have q1:=HBN.out.ok
     have q2:=HLH.out.2.2
     omega
    have HPOS:Hid (lo≤i∧i≤hi∧a≤i∧i≤m∧i≤mid∧m≤e∧e≤c∧e+i=n∧mid+m=n∧a<mid∧mid<c):=hpos
    have HAB:Hid (L1++L2=A∧R1++R2=B):=⟨by rw [← hL1,←hL2,List.take_append_drop],by rw [← hR1,←hR2,List.take_append_drop]⟩
    have HLN:Hid (L1.length=i - a∧L2.length=m - i∧R1.length=e - m∧R2.length=c - e):=by
     obtain⟨a1,a2,a3,a4,a5,a6,a7,a8⟩:=HALL.out
     refine⟨by rw [← hL1,List.length_take];omega,by rw [← hL2,List.length_drop];omega,by rw [← hR1,List.length_take];omega,by rw [← hR2,List.length_drop];omega⟩
    have hX:∀x∈L1++R1,∀y∈L2++R2,x.R y:=by
     obtain⟨s1,s2,s3⟩:=HSS.out
     obtain⟨b1,b2,b3,b4,b5⟩:=HH.out
     obtain⟨n1,n2,n3,n4⟩:=HLN.out
     refine cross (by rw [HAB.out.1];exact s1) (by rw [HAB.out.2];exact s2) (by rw [HAB.out.1,HAB.out.2];exact s3) ?_ ?_
     ·intro x y hx hy
      have hx1:0<L1.length:=by cases L1 with
       | nil=>simp at hx
       | cons z l=>simp
      have hy1:0<R2.length:=by cases R2 with
       | nil=>simp at hy
       | cons z l=>simp
      have ex:D[i - 1]?=some x:=by
       rw [List.getLast?_eq_getElem?,←hL1,List.getElem?_take_of_lt (by rw [hL1];omega)]at hx
       have:=HDA.out _ _ hx
       rw [hL1,show a+(L1.length - 1)=i - 1 by omega]at this
       exact this
      have ey:D[e]?=some y:=by
       rw [List.head?_eq_getElem?,←hR2,List.getElem?_drop]at hy
       have:=HDB.out _ _ hy
       rw [show m+(e - m+0)=e by omega]at this
       exact this
      have hT:=b4 (i - 1) (by have:=HBN.out.cs;omega) (by omega)
      have hT':¬tmE D (n - 1 - (i - 1))<tmE D (i - 1):=by simpa using hT
      rw [show n - 1 - (i - 1)=e by omega,tmE_at ex,tmE_at ey]at hT'
      omega
     ·intro x y hx hy
      have hx1:0<R1.length:=by cases R1 with
       | nil=>simp at hx
       | cons z l=>simp
      have hy1:0<L2.length:=by cases L2 with
       | nil=>simp at hy
       | cons z l=>simp
      have ex:D[e - 1]?=some x:=by
       rw [List.getLast?_eq_getElem?,←hR1,List.getElem?_take_of_lt (by rw [hR1];omega)]at hx
       have:=HDB.out _ _ hx
       rw [hR1,show m+(R1.length - 1)=e - 1 by omega]at this
       exact this
      have ey:D[i]?=some y:=by
       rw [List.head?_eq_getElem?,←hL2,List.getElem?_drop]at hy
       have:=HDA.out _ _ hy
       rw [show a+(i - a+0)=i by omega]at this
       exact this
      have hT:=b5 i (by omega) (by have:=HBN.out.cs;omega)
      have hT':tmE D (n - 1 - i)<tmE D i:=by simpa using hT
      rw [show n - 1 - i=e - 1 by omega,tmE_at ex,tmE_at ey]at hT'
      exact hT'
    have HX:Hid (∀x∈L1++R1,∀y∈L2++R2,x.R y):=hX
    have HSP:Hid (SrtE L1∧SrtE L2∧SrtE R1∧SrtE R2∧AcrE L1 R1∧AcrE L2 R2):=by
     obtain⟨s1,s2,s3⟩:=HSS.out
     rw [← HAB.out.1,←HAB.out.2]at s3
     rw [← HAB.out.1]at s1
     rw [← HAB.out.2]at s2
     exact⟨(srt_app.1 s1).1,(srt_app.1 s1).2.1,(srt_app.1 s2).1,(srt_app.1 s2).2.1,fun x hx y hy=>s3 x (List.mem_append_left _ hx) y (List.mem_append_left _ hy),fun x hx y hy=>s3 x (List.mem_append_right _ hx) y (List.mem_append_right _ hy)⟩
    have HDD:Hid (D=P++(L1++(L2++(R1++(R2++Q))))):=by
     show D=P++(L1++(L2++(R1++(R2++Q))))
     rw [← HD.out,←HAB.out.1,←HAB.out.2];simp
    have HNI:Hid (wrap64 ((n:Int) - (i:Int))=(e:Int)):=by
     show wrap64 ((n:Int) - (i:Int))=(e:Int)
     rw [wrapS n i (by omega) (by have:=HALL.out;omega),he]
    have HRW2:Hid (RwE S wr b D r):=HROW.out
    clear hX hpos hL1 hL2 hR1 hR2 he HH HGK HMO HDA HDB HSS HROW hclo hlt HLH
    as_aux_lemma=>
     go_upto_region 39 with fail
     rw [HNI.out]
     obtain⟨V,hV⟩:∃V:World,V=wr:=⟨_,rfl⟩
     rw [← hV]at HRW2 HCHG
     rw [← hV]
     clear hV
     obtain⟨bb,hbb⟩:∃bb,(decide (i<m)&&decide (m<e))=bb:=⟨_,rfl⟩
     have HBB:Hid ((decide (i<m)&&decide (m<e))=bb):=hbb
     clear hbb
     go_cut [185] (fun v x=>v=.bool bb∧V=x)
     case first=>
      as_aux_lemma=>
       by_cases q2:i<m
       ·have q4:(i:Int)<(m:Int):=by omega
        go_wp2
        go_meet
        exact⟨by rw [← HBB.out];simp [q2],rfl⟩
       ·have q4:¬(i:Int)<(m:Int):=by omega
        go_wp2
        go_meet
        exact⟨by rw [← HBB.out,decide_eq_false (by omega)];rfl,rfl⟩
     case rest=>
     obtain⟨rfl,hx⟩:=hcut
     rw [← hx]
     clear hx
     go_upto_if 185 with fail
     as_aux_lemma=>
      go_cut [191] (fun _ x=>RwE S x b (P++(L1++(R1++(L2++(R2++Q))))) r∧Chg (fun k=>k=b) w x)
      case first=>
       as_aux_lemma=>
        cases bb with
        | true=>
         have q1:i<m∧m<e:=by simpa using HBB.out
         have hrot:=rotate_any (S:=S) (w:=V) (b:=b) (a:=i) (m:=m) (c:=e) (N:=N) (cap:=cap) (r:=r) (fv:=.func (.func 151) #[] #[]) (P++L1) L2 R1 (R2++Q) (by have:=HLN.out;omega) (by have:=HLN.out;omega) (by have:=HLN.out;have:=HALL.out;have:=HPOS.out;rw [List.length_append];omega) (by have:=HLN.out;have:=HALL.out;have:=HPOS.out;rw [List.length_append];omega) (by have:=HLN.out;have:=HALL.out;have:=HPOS.out;rw [List.length_append];omega) (by have:=HLD.out;rw [HDD.out]at this;simpa using this) HALL.out.2.2.2.2.1 (by have:=HRW2.out;rw [HDD.out]at this;simpa using this)
         go_wp2_with (go_at_call 197;refine hrot.mono ?_;rintro e w1 ⟨rfl,hR1,hc1⟩)
         go_meet
         exact⟨by simpa using hR1,HCHG.out.trans hc1 (fun _ _ e=>e)⟩
        | false=>
         have HEQ:Hid (D=P++(L1++(R1++(L2++(R2++Q))))):=by
          show D=P++(L1++(R1++(L2++(R2++Q))))
          have n1:=HLN.out
          have n2:=HPOS.out
          have n3:¬(i<m∧m<e):=by intro h;have:=HBB.out;rw [decide_eq_true h.1,decide_eq_true h.2]at this;cases this
          rcases (by omega:L2.length=0∨R1.length=0)with h | h
          ·have:=List.eq_nil_of_length_eq_zero h;subst this;rw [HDD.out];simp
          ·have:=List.eq_nil_of_length_eq_zero h;subst this;rw [HDD.out];simp
         go_wp2
         go_meet
         exact⟨by rw [← HEQ.out];exact HRW2.out,HCHG.out⟩
      case rest=>
      obtain⟨hr1,hc1⟩:=hcut
      have HR1:Hid (RwE S wc b (P++(L1++(R1++(L2++(R2++Q))))) r):=hr1
      have HC1:Hid (Chg (fun k=>k=b) w wc):=hc1
      clear hr1 hc1 HRW2 HCHG
      obtain⟨V1,hV1⟩:∃V1:World,V1=wc:=⟨_,rfl⟩
      rw [← hV1]at HR1 HC1
      rw [← hV1]
      clear hV1
      as_aux_lemma=>
       go_upto_region 41 with fail
       clear HBB
       obtain⟨bb,hbb⟩:∃bb,(decide (a<i)&&decide (i<mid))=bb:=⟨_,rfl⟩
       have HBB:Hid ((decide (a<i)&&decide (i<mid))=bb):=hbb
       clear hbb
       go_cut [199] (fun v x=>v=.bool bb∧V1=x)
       case first=>
        as_aux_lemma=>
         by_cases q2:a<i
         ·have q4:(a:Int)<(i:Int):=by omega
          go_wp2
          go_meet
          exact⟨by rw [← HBB.out];simp [q2],rfl⟩
         ·have q4:¬(a:Int)<(i:Int):=by omega
          go_wp2
          go_meet
          exact⟨by rw [← HBB.out,decide_eq_false (by omega)];rfl,rfl⟩
       case rest=>
       obtain⟨rfl,hx⟩:=hcut
       rw [← hx]
       clear hx
       go_upto_if 199 with fail
       as_aux_lemma=>
        go_cut [205] (fun _ x=>∃C1,C1.Perm (L1++R1)∧SrtE C1∧RwE S x b (P++(C1++(L2++(R2++Q)))) r∧Chg (fun k=>k=b) w x)
        case first=>
         as_aux_lemma=>
          cases bb with
          | true=>
           have q1:a<i∧i<mid:=by simpa using HBB.out
           have hrec:=HIH.out S V1 b a i mid N cap r P L1 R1 (L2++(R2++Q)) (by have:=HLN.out;have:=HALL.out;have:=HPOS.out;omega) (by have:=HLN.out;omega) (by have:=HLN.out;have:=HPOS.out;omega) HALL.out.1 (by have:=HLN.out;have:=HALL.out;have:=HPOS.out;omega) (by have:=HLN.out;have:=HALL.out;have:=HPOS.out;omega) (by have:=HLN.out;have:=HALL.out;have:=HPOS.out;rw [List.length_append,List.length_append];omega) HALL.out.2.2.2.2.1 HSP.out.1 HSP.out.2.2.1 HSP.out.2.2.2.2.1 HR1.out
           go_wp2_with (go_at_call 192;refine hrec.mono ?_;rintro e w1 ⟨rfl,⟨C1,p1,s1,hR1⟩,hc1⟩)
           go_meet
           exact⟨C1,p1,s1,hR1,HC1.out.trans hc1 (fun _ _ e=>e)⟩
          | false=>
           have HEQ:Hid (SrtE (L1++R1)):=by
            show SrtE (L1++R1)
            have n1:=HLN.out
            have n2:=HPOS.out
            have n3:¬(a<i∧i<mid):=by intro h;have:=HBB.out;rw [decide_eq_true h.1,decide_eq_true h.2]at this;cases this
            rcases (by omega:L1.length=0∨R1.length=0)with h | h
            ·have:=List.eq_nil_of_length_eq_zero h;subst this;simpa using HSP.out.2.2.1
            ·have:=List.eq_nil_of_length_eq_zero h;subst this;simpa using HSP.out.1
           go_wp2
           go_meet
           exact⟨L1++R1,List.Perm.refl _,HEQ.out,by simpa using HR1.out,HC1.out⟩
        case rest=>
        obtain⟨C1,p1,s1,hr2,hc2⟩:=hcut
        have HR2:Hid (RwE S wc b (P++(C1++(L2++(R2++Q)))) r):=hr2
        have HC2:Hid (Chg (fun k=>k=b) w wc):=hc2
        have HP1:Hid (C1.Perm (L1++R1)∧SrtE C1∧C1.length=L1.length+R1.length):=⟨p1,s1,by have:=p1.length_eq;rw [List.length_append]at this;exact this⟩
        clear hr2 hc2 HR1 HC1 p1 s1
        have HEND:Hid (∀C2 W,C2.Perm (L2++R2)→SrtE C2→RwE S W b (P++(C1++(C2++Q))) r→∃C,C.Perm (A++B)∧SrtE C∧RwE S W b (P++(C++Q)) r):=by
         intro C2 W p2 s2 hW
         obtain⟨t1,t2⟩:=cross_done HX.out HP1.out.1 p2 HP1.out.2.1 s2
         rw [HAB.out.1,HAB.out.2]at t2
         exact⟨C1++C2,t2,t1,by simpa using hW⟩
        as_aux_lemma=>
         go_upto_region 43 with fail
         by_cases q1:mid<e∧e<c
         ·have q2:(mid:Int)<(e:Int):=by omega
          have q3:(e:Int)<(c:Int):=by omega
          have hrec:=HIH.out S wc b mid e c N cap r (P++C1) L2 R2 Q (by have:=HLN.out;have:=HALL.out;have:=HPOS.out;omega) (by have:=HLN.out;have:=HPOS.out;omega) (by have:=HLN.out;omega) (by have:=HP1.out.2.2;have:=HLN.out;have:=HALL.out;have:=HPOS.out;rw [List.length_append];omega) (by have:=HP1.out.2.2;have:=HLN.out;have:=HALL.out;have:=HPOS.out;rw [List.length_append];omega) (by have:=HP1.out.2.2;have:=HLN.out;have:=HALL.out;have:=HPOS.out;rw [List.length_append];omega) (by have:=HP1.out.2.2;have:=HLN.out;have:=HALL.out;have:=HPOS.out;rw [List.length_append];omega) HALL.out.2.2.2.2.1 HSP.out.2.1 HSP.out.2.2.2.1 HSP.out.2.2.2.2.2 (by have:=HR2.out;simpa using this)
          go_wp2_with (go_at_call 192;refine hrec.mono ?_;rintro e w1 ⟨rfl,⟨C2,p2,s2,hR3⟩,hc3⟩)
          go_end0
          exact⟨rfl,HEND.out C2 w1 p2 s2 (by simpa using hR3),HC2.out.trans hc3 (fun _ _ e=>e)⟩
         ·have HEQ:Hid (SrtE (L2++R2)):=by
           show SrtE (L2++R2)
           have n1:=HLN.out
           have n2:=HPOS.out
           rcases (by omega:L2.length=0∨R2.length=0)with h | h
           ·have:=List.eq_nil_of_length_eq_zero h;subst this;simpa using HSP.out.2.2.2.1
           ·have:=List.eq_nil_of_length_eq_zero h;subst this;simpa using HSP.out.2.1
          by_cases q2:mid<e
          ·have q3:¬(e:Int)<(c:Int):=by omega
           have q4:(mid:Int)<(e:Int):=by omega
           go_wp2
           go_end0
           exact⟨rfl,HEND.out (L2++R2) wc (List.Perm.refl _) HEQ.out (by simpa using HR2.out),HC2.out⟩
          ·have q4:¬(mid:Int)<(e:Int):=by omega
           go_wp2
           go_end0
           exact⟨rfl,HEND.out (L2++R2) wc (List.Perm.refl _) HEQ.out (by simpa using HR2.out),HC2.out⟩
theorem sym_any:∀L,SymP L
 | 0=>fun S w b a m c N cap r P A B Q hL hA hB=>by omega
 | L+1=>fun S w b a m c N cap r P A B Q hL hA hB ha hm hc hN hsz hsA hsB ho hR=>by
  by_cases h1:A.length=1
  ·obtain ⟨x,rfl⟩:=List.length_eq_one_iff.1 h1
   exact sym_left P B Q x hB ha (by simpa using hm) (by simpa using hc) (by simpa using hN) hsz hsB ho (by simpa using hR)
  ·by_cases h2:B.length=1
   ·obtain ⟨x,rfl⟩:=List.length_eq_one_iff.1 h2
    exact sym_right P A Q x (by omega) ha hm (by simpa using hc) (by simpa using hN) hsz hsA ho (by simpa using hR)
   ·exact sym_both (sym_any L) P A B Q hL (by omega) (by omega) ha hm hc hN hsz hsA hsB ho hR
end Go.Proofs.YtceoibfliggalaaGreatDoor
namespace Go.Proofs.YtceoibfliggalaaGreatDoor
open Go.RowKit Wd Tr Cg Lg
set_option maxHeartbeats 2000000 in
set_option maxRecDepth 20000 in
theorem stable_any {S:Slx} {w:World} {b N cap:Nat} {r:List Value} (D:List Ev) (hN:D.length=N) (hsz:N≤1000000) (hO:D.Pairwise Ev.O) (hR:RwE S w b D r):
  Calls Tryz.prog 178 #[.slice (some ⟨b,0,none⟩) N cap,.int .i64 N,.func (.func 151) #[] #[]] w fun e w'=>e=.returned (.tuple #[])∧(∃C,C.Perm D∧SrtE C∧RwE S w' b C r)∧Chg (fun k=>k=b) w w':=by
 have HALL:Hid (D.length=N∧N≤1000000):=⟨hN,hsz⟩
 have HR:Hid (RwE S w b D r):=hR
 have HO:Hid (D.Pairwise Ev.O):=hO
 clear hN hsz hO hR
 go_enter Tryz.func178,Tryz.ntmps178
 go_wp2
 go_loopg [7,8] N (fun gk v1 v2 wr=>∃(bs:List (List Ev)) (rest:List Ev) (a:Nat),rest.length=gk∧v1=.int .i64 a∧v2=.int .i64 ((a+20:Nat):Int)∧a=bs.flatten.length∧Raw0 D bs rest∧(∀f∈bs,f.length=20)∧RwE S wr b (bs.flatten++rest) r∧Chg (fun k=>k=b) w wr)
 case atStart=>exact⟨[],D,0,HALL.out.1,rfl,rfl,rfl,Raw0.start HO.out,by simp,by simpa using HR.out,Chg.refl _ _⟩
 case round=>
  obtain⟨bs,rest,a,hgk,rfl,rfl,ha,hraw,hf,hrow,hchg⟩:=hrel
  have HROW:Hid (RwE S wr b (bs.flatten++rest) r):=hrow
  have HCHG:Hid (Chg (fun k=>k=b) w wr):=hchg
  have HRAW:Hid (Raw0 D bs rest):=hraw
  have HF:Hid (∀f∈bs,f.length=20):=hf
  have HL:Hid (a+rest.length=N∧bs.flatten.length=a∧N≤1000000∧rest.length=gk):=by
   have:=hraw.perm.length_eq
   rw [List.length_append]at this
   exact⟨by have:=HALL.out.1;omega,ha.symm,HALL.out.2,hgk⟩
  clear hgk ha hraw hf hrow hchg HR HO
  by_cases hlt:a+20≤N
  ·have hlt':((a+20:Nat):Int)≤(N:Int):=by omega
   have hins:=insertion_some (S:=S) (w:=wr) (b:=b) (a:=a) (c:=a+20) (N:=N) (cap:=cap) (r:=r) bs.flatten (rest.take 20) (rest.drop 20) (by rw [List.length_take];have:=HL.out;omega) HL.out.2.1 (by rw [List.length_take];have:=HL.out;omega) (by rw [List.length_take,List.length_drop];have:=HL.out;omega) (by have:=HL.out;omega) (HRAW.out.ord.sublist (List.take_sublist _ _)) (by rw [List.take_append_drop];exact HROW.out)
   have HW:Hid (wrap64 ((a:Int)+20+20)=((a+20+20:Nat):Int)):=by show wrap64 ((a:Int)+20+20)=((a+20+20:Nat):Int);have:=HL.out;unfold wrap64;omega
   go_wp2_with (go_at_call 191;refine hins.mono ?_;rintro e w1 ⟨rfl,⟨C,hp,hs,hR1⟩,hc1⟩)
   go_roundg (rest.length - 20)
   case measure=>have:=HL.out;omega
   case rel=>
    have hl:=hp.length_eq
    rw [List.length_take]at hl
    refine⟨bs++ [C],rest.drop 20,a+20,by rw [List.length_drop],rfl,by rw [HW.out],?_,Raw0.step (X:=rest.take 20) (by rw [List.take_append_drop];exact HRAW.out) hp hs,?_,by simpa using hR1,HCHG.out.trans hc1 (fun _ _ e=>e)⟩
    ·have:=HL.out
     rw [List.flatten_append,List.length_append];simp only [List.flatten_cons,List.flatten_nil,List.append_nil];omega
    ·intro f hf
     rcases List.mem_append.1 hf with hf | hf
     ·exact HF.out f hf
     ·simp at hf;subst hf;have:=HL.out;omega
  ·have hlt':¬((a+20:Nat):Int)≤(N:Int):=by omega
   have hins:Calls Tryz.prog 191 #[.slice (some ⟨b,0,none⟩) N cap,.int .i64 a,.int .i64 N,.func (.func 151) #[] #[]] wr fun e w'=>e=.returned (.tuple #[])∧(∃C,Grp D (bs++ [C])∧C.length≤20∧RwE S w' b ((bs++ [C]).flatten) r)∧Chg (fun k=>k=b) wr w':=by
    by_cases h0:rest.length=0
    ·have e0:=List.eq_nil_of_length_eq_zero h0
     have e1:a=N:=by have:=HL.out;omega
     subst e1
     refine(insertion_none (by have:=HL.out;omega)).mono ?_
     rintro e w1 ⟨rfl,rfl⟩
     have h1:=HRAW.out
     have h2:=HROW.out
     rw [e0]at h1 h2
     exact⟨rfl,⟨[],h1.done.more,by simp,by simpa using h2⟩,Chg.refl _ _⟩
    ·refine (insertion_some (S:=S) (w:=wr) (b:=b) (a:=a) (c:=N) (N:=N) (cap:=cap) (r:=r) bs.flatten rest [] (by omega) HL.out.2.1 (by have:=HL.out;omega) (by have:=HL.out;rw [List.length_nil];omega) (by have:=HL.out;omega) HRAW.out.ord (by simpa using HROW.out)).mono ?_
     rintro e w1 ⟨rfl,⟨C,hp,hs,hR1⟩,hc1⟩
     refine⟨rfl,⟨C,(Raw0.step (X:=rest) (rest:= []) (by simpa using HRAW.out) hp hs).done,by have:=hp.length_eq;have:=HL.out;omega,by simpa using hR1⟩,hc1⟩
   go_upto_region 6 with fail
   go_wp2_with (go_at_call 191;refine hins.mono ?_;rintro e w1 ⟨rfl,⟨C,hG,hCl,hR1⟩,hc1⟩)
   have HG:Hid (Grp D (bs++ [C])∧Full 20 bs C):=⟨hG,HF.out,hCl⟩
   have HR1:Hid (RwE S w1 b ((bs++ [C]).flatten) r):=hR1
   have HC1:Hid (Chg (fun k=>k=b) w w1):=HCHG.out.trans hc1 (fun _ _ e=>e)
   clear hG hCl hR1 hc1 hins HROW HCHG HRAW HF hlt hlt'
   clear HL
   obtain⟨V,hV⟩:∃V:World,V=w1:=⟨_,rfl⟩
   rw [← hV]at HR1 HC1
   rw [← hV]
   clear hV
   go_loopg [6] (N - 20) (fun gk v wr=>∃(s:Nat) (fs:List (List Ev)) (l:List Ev),N - s=gk∧0<s∧s≤2*N+20∧v=.int .i64 s∧Grp D (fs++ [l])∧Full s fs l∧RwE S wr b ((fs++ [l]).flatten) r∧Chg (fun k=>k=b) w wr)
   case atStart=>exact⟨20,bs,C,by omega,by omega,by omega,rfl,HG.out.1,HG.out.2,HR1.out,HC1.out⟩
   case round=>
    clear HR1 HC1 HG
    obtain⟨s,fs,l,hgk,hs0,hsb,rfl,hG,hF,hrow,hchg⟩:=hrel
    have HROW:Hid (RwE S wr b ((fs++ [l]).flatten) r):=hrow
    have HCHG:Hid (Chg (fun k=>k=b) w wr):=hchg
    have HG:Hid (Grp D (fs++ [l])∧Full s fs l):=⟨hG,hF⟩
    have HS:Hid (N - s=gk∧0<s∧s≤2*N+20∧D.length=N∧N≤1000000):=⟨hgk,hs0,hsb,HALL.out.1,HALL.out.2⟩
    clear hgk hs0 hsb hG hF hrow hchg
    by_cases hlt:s<N
    ·have hlt':(s:Int)<(N:Int):=by omega
     have HLT:Hid (s<N):=hlt
     have HW2:Hid (wrap64 (2*(s:Int))=((0+2*s:Nat):Int)):=by show wrap64 (2*(s:Int))=((0+2*s:Nat):Int);have:=HS.out;unfold wrap64;omega
     have HW3:Hid (wrap64 ((s:Int)*2)=((2*s:Nat):Int)):=by show wrap64 ((s:Int)*2)=((2*s:Nat):Int);have:=HS.out;unfold wrap64;omega
     clear hlt
     go_upto_region 8 with fail
     go_wp2
     obtain⟨V2,hV2⟩:∃V2:World,V2=wr:=⟨_,rfl⟩
     rw [← hV2]at HROW HCHG
     rw [← hV2]
     clear hV2
     go_loopg [7,8] N (fun gk v1 v2 wr=>∃(a:Nat) (X fs:List (List Ev)) (l:List Ev),N - a=gk∧v1=.int .i64 a∧v2=.int .i64 ((a+2*s:Nat):Int)∧X.flatten.length=a∧Grp D (X++(fs++ [l]))∧Full s fs l∧(∀f∈X,f.length=2*s)∧RwE S wr b ((X++(fs++ [l])).flatten) r∧Chg (fun k=>k=b) w wr)
     case atStart=>exact⟨0,[],fs,l,by omega,rfl,by rw [HW2.out],rfl,HG.out.1,HG.out.2,by simp,HROW.out,HCHG.out⟩
     case round=>
      clear HROW HCHG HG
      obtain⟨a,X,fs,l,hgk,rfl,rfl,ha,hG,hF,hX,hrow,hchg⟩:=hrel
      have HROW:Hid (RwE S wr b ((X++(fs++ [l])).flatten) r):=hrow
      have HCHG:Hid (Chg (fun k=>k=b) w wr):=hchg
      have HG:Hid (Grp D (X++(fs++ [l]))∧Full s fs l∧(∀f∈X,f.length=2*s)∧X.flatten.length=a):=⟨hG,hF,hX,ha⟩
      have HA:Hid (N - a=gk∧a≤N):=⟨hgk,by have:=grp_len hG hF;have:=HS.out;omega⟩
      clear hgk hG hF hX ha hrow hchg
      by_cases hab:a+2*s≤N
      ·have hab':((a+2*s:Nat):Int)≤(N:Int):=by omega
       obtain⟨f,g,Q,hfl,hf1,hg1,sf,sg,ac,hmk⟩:=two_blocks HG.out.1 HG.out.2.1 HS.out.2.1 (by rw [HG.out.2.2.2,HS.out.2.2.2.1];exact hab)
       have HMK:Hid (∀C,C.Perm (f++g)→SrtE C→∃fs2 l2,Grp D ((X++ [C])++(fs2++ [l2]))∧Full s fs2 l2∧((X++ [C])++(fs2++ [l2])).flatten=X.flatten++(C++Q)):=hmk
       have HLQ:Hid (a+s+s+Q.length=N):=by
        show a+s+s+Q.length=N
        have h1:=HG.out.1.perm.length_eq
        rw [hfl]at h1
        simp only [List.length_append]at h1
        have:=HG.out.2.2.2
        have:=HS.out.2.2.2.1
        omega
       have HLEN2:Hid (f.length=s∧g.length=s):=⟨hf1,hg1⟩
       have HWM:Hid (wrap64 ((a:Int)+(s:Int))=((a+s:Nat):Int)):=by show wrap64 ((a:Int)+(s:Int))=((a+s:Nat):Int);have:=HS.out;unfold wrap64;omega
       have hsy:Calls Tryz.prog 192 #[.slice (some ⟨b,0,none⟩) N cap,.int .i64 a,.int .i64 (wrap64 ((a:Int)+(s:Int))),.int .i64 ((a+2*s:Nat):Int),.func (.func 151) #[] #[]] wr fun e w'=>e=.returned (.tuple #[])∧(∃C,C.Perm (f++g)∧SrtE C∧RwE S w' b (X.flatten++(C++Q)) r)∧Chg (fun k=>k=b) wr w':=by
        rw [HWM.out]
        have e1:=HG.out.2.2.2
        have e2:=HS.out
        have e3:=HLQ.out
        exact sym_any (f.length+g.length) S wr b a (a+s) (a+2*s) N cap r X.flatten f g Q (Nat.le_refl _) (by omega) (by omega) e1 (by omega) (by omega) (by omega) (by omega) sf sg ac (by rw [← hfl];exact HROW.out)
       have HWB:Hid (∀z:Int,z=2*(s:Int)→wrap64 (((a+2*s:Nat):Int)+z)=((a+2*s+2*s:Nat):Int)):=by intro z hz;have:=HS.out;have:=HLQ.out;subst hz;unfold wrap64;omega
       have HW2':Hid (wrap64 (2*(s:Int))=2*(s:Int)):=by show wrap64 (2*(s:Int))=2*(s:Int);have:=HS.out;unfold wrap64;omega
       clear hfl hf1 hg1 sf sg ac hmk
       simp only [Int.natCast_add,Int.natCast_mul]at hsy hab' ⊢
       go_wp2_with (go_at_call 192;refine hsy.mono ?_;rintro e w2 ⟨rfl,⟨C,p,sC,hR2⟩,hc2⟩)
       clear hsy hab'
       go_roundg (N - (a+2*s))
       case measure=>have:=HA.out;have:=HS.out;omega
       case rel=>
        obtain⟨fs2,l2,hG2,hF2,hfl2⟩:=HMK.out C p sC
        refine⟨a+2*s,X++ [C],fs2,l2,rfl,by simp,?_,?_,hG2,hF2,?_,by rw [hfl2];exact hR2,HCHG.out.trans hc2 (fun _ _ e=>e)⟩
        ·have:=HWB.out (2*(s:Int)) rfl
         rw [HW2'.out]
         simpa using this
        ·have h1:=p.length_eq
         have h2:=HLEN2.out
         rw [List.length_append]at h1
         rw [List.flatten_append,List.length_append,HG.out.2.2.2]
         simp only [List.flatten_cons,List.flatten_nil,List.append_nil]
         omega
        ·intro k hk
         have h1:=p.length_eq
         have h2:=HLEN2.out
         rw [List.length_append]at h1
         rcases List.mem_append.1 hk with hk | hk
         ·exact HG.out.2.2.1 k hk
         ·simp at hk;subst hk;omega
      ·have hab':¬((a+2*s:Nat):Int)≤(N:Int):=by omega
       have HWM:Hid (wrap64 ((a:Int)+(s:Int))=((a+s:Nat):Int)):=by show wrap64 ((a:Int)+(s:Int))=((a+s:Nat):Int);have:=HS.out;have:=HA.out;unfold wrap64;omega
       have HNX:Hid (∀C W,Grp D (X++ [C])→Full (2*s) X C→RwE S W b ((X++ [C]).flatten) r→Chg (fun k=>k=b) w W→∃(s':Nat) (fs:List (List Ev)) (l:List Ev),N - s'=N - 2*s∧0<s'∧s'≤2*N+20∧Value.int .i64 (wrap64 ((s:Int)*2))=.int .i64 s'∧Grp D (fs++ [l])∧Full s' fs l∧RwE S W b ((fs++ [l]).flatten) r∧Chg (fun k=>k=b) w W):=by
        intro C W h1 h2 h3 h4
        have e1:=HS.out
        have e2:=HLT.out
        exact⟨2*s,X,C,rfl,by omega,by omega,by rw [HW3.out],h1,h2,h3,h4⟩
       by_cases hms:a+s<N
       ·have hms':wrap64 ((a:Int)+(s:Int))<(N:Int):=by rw [HWM.out];omega
        obtain⟨f,g,hfl,hf1,hg1,sf,sg,ac,hmk⟩:=last_two' HG.out.1 HG.out.2.1 HG.out.2.2.1 (by rw [HG.out.2.2.2,HS.out.2.2.2.1];omega) (by rw [HG.out.2.2.2,HS.out.2.2.2.1];exact hms)
        have HMK:Hid (∀C,C.Perm (f++g)→SrtE C→Grp D (X++ [C])∧Full (2*s) X C):=hmk
        have HLQ:Hid (a+s+g.length=N):=by
         show a+s+g.length=N
         have h1:=HG.out.1.perm.length_eq
         rw [hfl]at h1
         simp only [List.length_append]at h1
         have:=HG.out.2.2.2
         have:=HS.out.2.2.2.1
         omega
        have hsy:Calls Tryz.prog 192 #[.slice (some ⟨b,0,none⟩) N cap,.int .i64 a,.int .i64 (wrap64 ((a:Int)+(s:Int))),.int .i64 N,.func (.func 151) #[] #[]] wr fun e w'=>e=.returned (.tuple #[])∧(∃C,C.Perm (f++g)∧SrtE C∧RwE S w' b (X.flatten++(C++ [])) r)∧Chg (fun k=>k=b) wr w':=by
         rw [HWM.out]
         have e1:=HG.out.2.2.2
         have e2:=HS.out
         have e3:=HLQ.out
         exact sym_any (f.length+g.length) S wr b a (a+s) N N cap r X.flatten f g [] (Nat.le_refl _) (by omega) (by omega) e1 (by omega) (by omega) (by rw [List.length_nil];omega) (by omega) sf sg ac (by have:=HROW.out;rw [hfl]at this;simpa using this)
        clear hfl hf1 hg1 sf sg ac hmk
        simp only [Int.natCast_add,Int.natCast_mul]at hab' ⊢
        go_wp2_with (go_at_call 192;refine hsy.mono ?_;rintro e w2 ⟨rfl,⟨C,p,sC,hR2⟩,hc2⟩)
        clear hsy hab' hms'
        go_roundg (N - 2*s)
        case measure=>have:=HS.out;have:=HLT.out;omega
        case rel=>
         obtain⟨h1,h2⟩:=HMK.out C p sC
         exact HNX.out C w2 h1 h2 (by simpa using hR2) (HCHG.out.trans hc2 (fun _ _ e=>e))
       ·have hms':¬wrap64 ((a:Int)+(s:Int))<(N:Int):=by rw [HWM.out];omega
        obtain⟨C,hG2,hF2,hfl⟩:=last_one' HG.out.1 HG.out.2.1 HS.out.2.1 HG.out.2.2.1 (by rw [HG.out.2.2.2,HS.out.2.2.2.1];omega)
        have HC:Hid (Grp D (X++ [C])∧Full (2*s) X C∧(X++ [C]).flatten=(X++(fs++ [l])).flatten):=⟨hG2,hF2,hfl⟩
        clear hG2 hF2 hfl
        simp only [Int.natCast_add,Int.natCast_mul]at hab' ⊢
        go_wp2
        clear hab' hms'
        go_roundg (N - 2*s)
        case measure=>have:=HS.out;have:=HLT.out;omega
        case rel=>exact HNX.out C wr HC.out.1 HC.out.2.1 (by rw [HC.out.2.2];exact HROW.out) HCHG.out
    ·have hlt':¬(s:Int)<(N:Int):=by omega
     have hone:=grp_one HG.out.1 HG.out.2 HS.out.2.1 (by rw [HS.out.2.2.2.1];omega)
     have HONE:Hid (SrtE (fs++ [l]).flatten):=hone
     clear hone
     go_wp2
     go_end0
     exact⟨rfl,⟨(fs++ [l]).flatten,HG.out.1.perm,HONE.out,HROW.out⟩,HCHG.out⟩
theorem stable_none {w:World} {ao:Option Addr} {cap:Nat} {fv:Value}:
  Calls Tryz.prog 178 #[.slice ao 0 cap,.int .i64 0,fv] w fun e w'=>e=.returned (.tuple #[])∧w'=w:=by
 have hins:=insertion_none (w:=w) (ao:=ao) (a:=0) (N:=0) (cap:=cap) (fv:=fv) (by omega)
 go_enter Tryz.func178,Tryz.ntmps178
 go_wp2
 refine wp_loop_rounds 1 ?_
 rw [rounds_succ]
 go_wp2_with (go_at_call 191;refine hins.mono ?_;rintro e w1 ⟨rfl,rfl⟩)
 refine wp_loop_rounds 1 ?_
 rw [rounds_succ]
 go_wp2
 go_end0
 exact⟨rfl,rfl⟩
theorem sort_some {S:Slx} {w:World} {b N cap:Nat} {r:List Value} (D:List Ev) (hN:D.length=N) (hsz:N≤1000000) (hO:D.Pairwise Ev.O) (hR:RwE S w b D r):
  Calls Tryz.prog 150 #[.slice (some ⟨b,0,none⟩) N cap,.func (.func 151) #[] #[]] w fun e w'=>e=.returned (.tuple #[])∧(∃C,C.Perm D∧SrtE C∧RwE S w' b C r)∧Chg (fun k=>k=b) w w':=by
 have hs:=stable_any (cap:=cap) D hN hsz hO hR
 go_enter Tryz.func150,Tryz.ntmps150
 go_wp2_with (go_at_call 178;refine hs.mono ?_;rintro e w1 ⟨rfl,h1,h2⟩)
 go_end0
 exact⟨rfl,h1,h2⟩
theorem sort_none {w:World} {ao:Option Addr} {cap:Nat} {fv:Value}:
  Calls Tryz.prog 150 #[.slice ao 0 cap,fv] w fun e w'=>e=.returned (.tuple #[])∧w'=w:=by
 have hs:=stable_none (w:=w) (ao:=ao) (cap:=cap) (fv:=fv)
 go_enter Tryz.func150,Tryz.ntmps150
 go_wp2_with (go_at_call 178;refine hs.mono ?_;rintro e w1 ⟨rfl,rfl⟩)
 go_end0
 exact⟨rfl,rfl⟩
end Go.Proofs.YtceoibfliggalaaGreatDoor

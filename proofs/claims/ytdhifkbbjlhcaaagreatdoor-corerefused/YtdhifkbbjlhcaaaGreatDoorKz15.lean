import Derived.Test.YtdhifkbbjlhcaaaGreatDoorKz9
import Derived.Test.YtdhifkbbjlhcaaaGreatDoorKz14
set_option maxRecDepth 20000
set_option maxHeartbeats 1000000
set_option linter.defProp false
namespace Go.Proofs.YtdhifkbbjlhcaaaGreatDoor
open Go.Proofs.Tryz
variable {W:ay} {f:Jv->Jv} {j:Jv} {js:List Jv} {k:Int} {m n:Nat}
section
open Go.RowKit Go.Maps
abbrev QC (i:Int):Prop:=(Lit.int .i64 i).wf=true
def KJ (n:Int):Lit:=.int .i64 n
def BU (n:Int) (j:Jv):Value:=.agg #[J n,J j.nd,J j.lm]
def B_:Value:=.agg #[J 0,J 0,J 0]
def fZ (js:List Jv) (k:Int):Option Jv:=if 0<=k then(match js[k.toNat]? with
 | some j=>if j.st=1 then some j else none
 | none=>none)else none
theorem Ht:fZ js k=some j↔0<=k/\js[k.toNat]?=some j/\j.st=1:=by
 grind[fZ]
structure WtD (D:DataW Value) (js:List Jv):Prop where
 isM:Maps.IsMap D
 tidy:Maps.Tidy D
 size:Maps.size D=gU js
 no:∀k:Int,fZ js k=none->Maps.has D (KJ k)=false/\D.atKey (KJ k) (.held B_)=.held B_
 yes:∀(k:Int) (j:Jv),fZ js k=some j->Maps.has D (KJ k)=true/\D.atKey (KJ k) (.held B_)=.held (BU k j)
theorem aus (i:Int):WideAt.IsKeyLit (KJ i):=trivial
theorem QD {i j:Int} (h:i≠j):KJ i≠KJ j:=fun e=>h (by injection e)
def alg:WtD (.map []) []:=⟨⟨_,rfl⟩,⟨_,rfl,List.Pairwise.nil⟩,rfl,fun _ _=>⟨rfl,rfl⟩,fun k j h=>by
 grind[Ht]⟩
theorem KO (h1:j.st=1) (k:Int):fZ (js++ [j]) k=if k=(js.length:Int)then some j else fZ js k:=by
 grind[fZ]
theorem WtD.add {D:DataW Value} (h:WtD D js) (h1:j.st=1):WtD (D.put (KJ js.length) (.held (BU js.length j))) (js++ [j]):=by
 have hno:fZ js (js.length:Int)=none:=by grind[fZ]
 refine⟨h.isM.put _ _,Maps.Tidy.put h.tidy (aus _) _,?_,fun k hk=>?_,fun k x hk=>?_⟩
 ·rw[Maps.size_put h.tidy,(h.no _ hno).1,h.size];grind[gU]
 ·grind[KO,has_put_other,QD,atKey_put_other,no]
 grind[KO,has_put_same,isM,aus,atKey_put_same,has_put_other,QD,atKey_put_other,yes]
theorem KQ (hj:js[n]?=some j) (h1:(f j).st≠1) (k:Int):fZ (bX js n f) k=if k=(n:Int)then none else fZ js k:=by
 grind[fZ,bX,lT]
theorem WtD.del {D:DataW Value} (h:WtD D js) (hj:js[n]?=some j) (hp:j.st=1) (h1:(f j).st≠1):WtD (D.del (KJ n)) (bX js n f):=by
 have hyes:fZ js (n:Int)=some j:=by grind[fZ]
 refine⟨h.isM.del _,Maps.Tidy.del h.tidy _,?_,fun k hk=>?_,fun k x hk=>?_⟩
 ·have:=Maps.size_del (k:=KJ n) h.tidy;rw[(h.yes _ _ hyes).1,h.size]at this;grind[Kr,bX]
 ·grind[KQ,has_del_same,atKey_del_same,has_del_other,atKey_del_other,no]
 grind[KQ,has_del_other,QD,atKey_del_other,yes]
theorem WtD.same {D:DataW Value} (h:WtD D js) (hj:js[n]?=some j) (hp:j.st≠1) (h1:(f j).st≠1):WtD D (bX js n f):=by
 have hno:fZ js (n:Int)=none:=by grind[fZ]
 have all:∀k,fZ (bX js n f) k=fZ js k:=by grind[fZ,bX]
 refine⟨h.isM,h.tidy,?_,fun k hk=>h.no k (by grind),fun k x hk=>h.yes k x (by grind)⟩;grind[Kr,bX,size]
def jq (W:ay) (m:Nat) (js:List Jv):Prop:=∃n D,W.ownsMap prog 3 yF m n D/\n<=1000000/\WtD D js
def Tryz.aoY (w:ay):(zeroValue 200).run prog w=.ok B_ w:=aF
def alh (h:QC k):keyOf prog 3 (J k)=some (KJ k):=keyOf_int_mk underlying3 h
def jq.look (h:jq W m js) (hk:QC k):(Instr.lookup 96 (.map (some m)) (.int .i64 k) true).run prog W=.ok (.tuple #[match fZ js k with | some j=>BU k j | none=>B_,.bool (fZ js k).isSome]) W:=by
 obtain⟨n,D,h1,_,h2⟩:=h;have⟨x,ps,hr,hx⟩:=h1.look_ok Tryz.abM underlying96 (Tryz.aoY W) (zd:=.held B_) (zp:= []) rfl (alh hk)
 cases hp:fZ js k with
 | none=>rw[(h2.no k hp).2]at hx;unfold yF at hx;have hx:=DataW.held.inj (Prod.mk.inj (ji hx)).1;rw[hr,hx,(h2.no k hp).1];rfl
 | some j=>rw[(h2.yes k j hp).2]at hx;unfold yF at hx;have hx:=DataW.held.inj (Prod.mk.inj (ji hx)).1;rw[hr,hx,(h2.yes k j hp).1];rfl
def jq.aut (h:jq W m js) (hk:QC k):(Instr.lookup 96 (.map (some m)) (J k) false).run prog W=.ok (match fZ js k with | some j=>BU k j | none=>B_) W:=by
 obtain⟨n,D,h1,_,h2⟩:=h;have⟨x,ps,hr,hx⟩:=h1.lookup Tryz.abM underlying96 (Tryz.aoY W) (zd:=.held B_) (zp:= []) rfl (alh hk)
 cases hp:fZ js k with
 | none=>rw[(h2.no k hp).2]at hx;grind[yF]
 | some j=>rw[(h2.yes k j hp).2]at hx;grind[yF]
theorem jq.len (h:jq W m js) (ty:TypeId):(Builtin.len_ #[96] ty #[.map (some m)]).run prog W=.ok (J (gU js:Nat)) W:=by
 obtain⟨n,D,h1,_,h2⟩:=h;rw[h1.len underlying96,h2.size]
theorem jq.same {W W':ay} (h:jq W m js) (e:W'.heap[m]?=W.heap[m]?):jq W' m js:=by
 obtain⟨n,D,h1,h2,h3⟩:=h;obtain⟨es,clock,hb,r⟩:=h1;exact⟨n,D,⟨es,clock,e.trans hb,r⟩,h2,h3⟩
theorem jq.lt (h:jq W m js):m<W.heap.size:=by obtain⟨n,D,h1,_⟩:=h;exact h1.lt
def abO {D:DataW Value} (h:W.ownsMap prog 3 yF m n D):W.ownsMap prog 3 yF m (Maps.size D) D:=by
 obtain⟨es,clock,hb,F,hs,rfl⟩:=h;exact⟨es,clock,hb,F,by grind[size,length_sorted],rfl⟩
def jq.put (h:jq W m js) (h1:j.st=1) (hl:gU js<1000000) (hk:QC (js.length:Int)):
  ∃W',(Instr.mapUpdate 96 (.map (some m)) (J (js.length:Int)) (BU (js.length:Int) j)).run prog W=.ok () W'/\jq W' m (js++ [j])/\W.mapTurned W' m:=by
 obtain⟨n,D,h2,_,h3⟩:=h;have h4:=abO h2;rw[h3.size]at h4;have⟨W',hrun,ho,ht⟩:=h4.store Tryz.abM underlying96 (show gU js<maxLen by unfold maxLen;omega) (alh hk) (val:=BU (js.length:Int) j) (d:=.held (BU (js.length:Int) j)) (ps:= []) rfl;grind[WtD.add,jq]
def jq.drop (h:jq W m js) (hj:js[n]?=some j) (hp:j.st=1) (h1:(f j).st≠1) (hk:QC (n:Int)) (ty:TypeId):
  ∃W',(Builtin.delete_ #[96,3] ty #[.map (some m),J (n:Int)]).run prog W=.ok (.tuple #[]) W'/\jq W' m (bX js n f)/\W.mapTurned W' m:=by
 obtain⟨q,D,h2,h5,h3⟩:=h;have⟨W',hrun,ho,ht⟩:=h2.drop Tryz.abM underlying96 (alh hk) ty;grind[WtD.del,jq]
def F9 (W:ay):jq (W.alloc (.map #[] 0)) W.heap.size []:=⟨0,_,JL W prog 3 yF,by omega,alg⟩
end
end Go.Proofs.YtdhifkbbjlhcaaaGreatDoor

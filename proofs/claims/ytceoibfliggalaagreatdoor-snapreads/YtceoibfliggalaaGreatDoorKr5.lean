/-
  TEXTS: PgA, PgT, PgB, PgL, PgM, PgH, PgR, LdX, LdB.
-/
import Derived.Test.YtceoibfliggalaaGreatDoorKr1
import Derived.Maps.OwnSet
import Derived.Maps.RangeWalk
import Derived.Lib.SliceRun
import Derived.Deep.RegionLaw
import Derived.Deep.CutBlock
import Derived.Deep.DeepCutAuto
namespace Go.Proofs.YtceoibfliggalaaGreatDoor
open Go.RowKit Tr
set_option maxHeartbeats 2000000 in
set_option maxRecDepth 20000 in
theorem sign_any (c:UInt8) (w:World):Calls Tryz.prog 184 #[.int .u8 c.toNat] w fun e w'=>e=.returned (.bool (okByte c))∧w=w':=by
 obtain⟨b,hb⟩:∃b,c.toNat=b:=⟨_,rfl⟩
 obtain⟨ob,hob⟩:∃ob,okByte c=ob:=⟨_,rfl⟩
 have hbo:ob=((decide (97≤b)&&decide (b≤122))||(decide (65≤b)&&decide (b≤90))||(decide (48≤b)&&decide (b≤57))||b==45||b==95):=by rw [← hob,←hb];rfl
 rw [hb,hob]
 clear hb hob
 have hc:(97≤b∧b≤122)∨(122<b)∨(b=95)∨(91≤b∧b≤96∧b≠95)∨(65≤b∧b≤90)∨(58≤b∧b≤64)∨(48≤b∧b≤57)∨(b=45)∨(b<48∧b≠45):=by omega
 rcases hc with h | h | h | h | h | h | h | h | h
 ·have ok:ob=true:=by rw [hbo];simp;omega
  clear hbo
  subst ok
  have f0:(97:Int)≤b:=by omega
  have f1:(b:Int)≤122:=by omega
  clear h
  go_enter Tryz.func184,Tryz.ntmps184
  go_wp2
  go_ret
  exact⟨rfl,rfl⟩
 ·have ok:ob=false:=by rw [hbo];simp;omega
  clear hbo
  subst ok
  have f0:(97:Int)≤b:=by omega
  have f1:¬(b:Int)≤122:=by omega
  have f2:(65:Int)≤b:=by omega
  have f3:¬(b:Int)≤90:=by omega
  have f4:(48:Int)≤b:=by omega
  have f5:¬(b:Int)≤57:=by omega
  have f6:((b:Int)==45)=false:=by simp;omega
  have f7:((b:Int)==95)=false:=by simp;omega
  clear h
  go_enter Tryz.func184,Tryz.ntmps184
  go_wp2
  go_ret
  exact⟨rfl,rfl⟩
 ·have ok:ob=true:=by rw [hbo,h];rfl
  clear hbo
  subst ok
  subst h
  go_enter Tryz.func184,Tryz.ntmps184
  go_wp2
  go_ret
  exact⟨rfl,rfl⟩
 ·have ok:ob=false:=by rw [hbo];simp;omega
  clear hbo
  subst ok
  have f0:¬(97:Int)≤b:=by omega
  have f1:(65:Int)≤b:=by omega
  have f2:¬(b:Int)≤90:=by omega
  have f3:(48:Int)≤b:=by omega
  have f4:¬(b:Int)≤57:=by omega
  have f5:((b:Int)==45)=false:=by simp;omega
  have f6:((b:Int)==95)=false:=by simp;omega
  clear h
  go_enter Tryz.func184,Tryz.ntmps184
  go_wp2
  go_ret
  exact⟨rfl,rfl⟩
 ·have ok:ob=true:=by rw [hbo];simp;omega
  clear hbo
  subst ok
  have f0:¬(97:Int)≤b:=by omega
  have f1:(65:Int)≤b:=by omega
  have f2:(b:Int)≤90:=by omega
  clear h
  go_enter Tryz.func184,Tryz.ntmps184
  go_wp2
  go_ret
  exact⟨rfl,rfl⟩
 ·have ok:ob=false:=by rw [hbo];simp;omega
  clear hbo
  subst ok
  have f0:¬(97:Int)≤b:=by omega
  have f1:¬(65:Int)≤b:=by omega
  have f2:(48:Int)≤b:=by omega
  have f3:¬(b:Int)≤57:=by omega
  have f4:((b:Int)==45)=false:=by simp;omega
  have f5:((b:Int)==95)=false:=by simp;omega
  clear h
  go_enter Tryz.func184,Tryz.ntmps184
  go_wp2
  go_ret
  exact⟨rfl,rfl⟩
 ·have ok:ob=true:=by rw [hbo];simp;omega
  clear hbo
  subst ok
  have f0:¬(97:Int)≤b:=by omega
  have f1:¬(65:Int)≤b:=by omega
  have f2:(48:Int)≤b:=by omega
  have f3:(b:Int)≤57:=by omega
  clear h
  go_enter Tryz.func184,Tryz.ntmps184
  go_wp2
  go_ret
  exact⟨rfl,rfl⟩
 ·have ok:ob=true:=by rw [hbo,h];rfl
  clear hbo
  subst ok
  subst h
  go_enter Tryz.func184,Tryz.ntmps184
  go_wp2
  go_ret
  exact⟨rfl,rfl⟩
 ·have ok:ob=false:=by rw [hbo];simp;omega
  clear hbo
  subst ok
  have f0:¬(97:Int)≤b:=by omega
  have f1:¬(65:Int)≤b:=by omega
  have f2:¬(48:Int)≤b:=by omega
  have f3:((b:Int)==45)=false:=by simp;omega
  have f4:((b:Int)==95)=false:=by simp;omega
  clear h
  go_enter Tryz.func184,Tryz.ntmps184
  go_wp2
  go_ret
  exact⟨rfl,rfl⟩
set_option maxHeartbeats 2000000 in
set_option maxRecDepth 20000 in
theorem pname_any (s:ByteArray) (w:World):Calls Tryz.prog 165 #[.string s] w fun e w'=>e=.returned (.bool (okName s))∧w=w':=by
 unfold okName
 by_cases h1:s.size<1
 ·have e:decide (1≤s.size)=false:=decide_eq_false (by omega)
  rw [e]
  go_enter Tryz.func165,Tryz.ntmps165
  go_wp2
  go_ret
  exact⟨rfl,rfl⟩
 by_cases h2:32<s.size
 ·have e:decide (s.size≤32)=false:=decide_eq_false (by omega)
  rw [e]
  have h1':¬(s.size:Int)<1:=by omega
  go_enter Tryz.func165,Tryz.ntmps165
  go_wp2
  go_ret
  exact⟨by simp,rfl⟩
 have e1:decide (1≤s.size)=true:=decide_eq_true (by omega)
 have e2:decide (s.size≤32)=true:=decide_eq_true (by omega)
 rw [e1,e2,Bool.true_and,Bool.true_and]
 obtain⟨q,hq⟩:∃q,s.size=q:=⟨_,rfl⟩
 have h1':¬(s.size:Int)<1:=by omega
 have h2':¬(32:Int)<s.size:=by omega
 go_enter Tryz.func165,Tryz.ntmps165
 go_wp2
 go_loopg [14] q (fun gk p wr=>∃j:Nat,j+gk=q∧p=.int .i64 j∧w=wr∧s.data.toList.all okByte=(s.data.toList.drop j).all okByte)
 case atStart=>exact⟨0,by omega,rfl,rfl,by simp⟩
 case round=>
  obtain⟨j,hj,rfl,rfl,hinv⟩:=hrel
  by_cases hlt:j<q
  ·have hlt':(j:Int)<q:=by omega
   have hjs:j<s.size:=by omega
   rw [drop_all hjs]at hinv
   have hsg:=sign_any s[j] w
   obtain⟨ob,hob⟩:∃ob,okByte s[j]=ob:=⟨_,rfl⟩
   rw [hob]at hinv hsg
   have HI:Hid _:=hinv
   clear hinv hob
   go_wp2_with fail
   refine hsg.mono ?_
   rintro e w1 ⟨rfl,rfl⟩
   cases ob with
   | true=>
    have HJ:Hid (s.data.toList.all okByte=(s.data.toList.drop (j+1)).all okByte):=show s.data.toList.all okByte=(s.data.toList.drop (j+1)).all okByte by rw [HI.out,Bool.true_and]
    clear HI
    go_wp2
    go_roundg (q - (j+1))
    case measure=>omega
    case rel=>exact⟨j+1,by omega,rfl,rfl,HJ.out⟩
   | false=>
    have HJ:Hid (s.data.toList.all okByte=false):=show s.data.toList.all okByte=false by rw [HI.out,Bool.false_and]
    clear HI
    go_wp2
    go_ret
    exact⟨by rw [HJ.out];rfl,rfl⟩
  ·obtain rfl:j=q:=by omega
   have HI:Hid (s.data.toList.all okByte=true):=show s.data.toList.all okByte=true by
    rw [hinv,List.drop_of_length_le (by simp;exact Nat.le_of_eq hq)]
    rfl
   clear hinv
   go_wp2
   go_ret
   exact⟨by rw [HI.out];rfl,rfl⟩
set_option maxRecDepth 20000 in
theorem pshares_any (n:Int) (w:World):Calls Tryz.prog 166 #[.int .i64 n] w fun e w'=>e=.returned (.bool (okSh n))∧w=w':=by
 unfold okSh
 by_cases h1:1≤n
 ·by_cases h2:n≤4096
  ·rw [decide_eq_true h1,decide_eq_true h2]
   go_enter Tryz.func166,Tryz.ntmps166
   go_wp2
   go_ret
   exact⟨rfl,rfl⟩
  ·rw [decide_eq_true h1,decide_eq_false h2]
   go_enter Tryz.func166,Tryz.ntmps166
   go_wp2
   go_ret
   exact⟨rfl,rfl⟩
 ·rw [decide_eq_false h1]
  go_enter Tryz.func166,Tryz.ntmps166
  go_wp2
  go_ret
  exact⟨rfl,rfl⟩
def stepsI:Option Nat→Int×Bool
 | none=>(0,false)
 | some d=>(d,true)
set_option maxHeartbeats 1000000 in
set_option maxRecDepth 20000 in
theorem steps_any {w:World} {ao:Option Addr} {l:List Ac} {c:Nat} (hA:AcsAt w ao l) (hn:l.length*48≤140737488355328) (hp:PaOk l) {n:Nat} (hnl:n<l.length):
  Calls Tryz.prog 167 #[.slice ao l.length c,.int .i64 n] w fun e w'=>e=.returned (.tuple #[.int .i64 (stepsI (depN l l.length n)).1,.bool (stepsI (depN l l.length n)).2])∧w=w':=by
 obtain⟨q,hq⟩:∃q,l.length=q:=⟨_,rfl⟩
 obtain⟨g,o,hg,hc⟩:=hA
 rw [hq]at hg hn hnl ⊢
 obtain rfl:=hg (by omega)
 go_enter Tryz.func167,Tryz.ntmps167
 go_wp2
 go_loopg [1,9] q (fun gk pn p wr=>∃(j m:Nat),j+gk=q∧p=.int .i64 j∧pn=.int .i64 m∧m<q∧w=wr∧depN l q n=(depN l gk m).map (· +j))
 case atStart=>exact⟨0,n,by omega,rfl,rfl,hnl,rfl,by simp⟩
 case round=>
  obtain⟨j,m,hj,rfl,rfl,hm,rfl,hinv⟩:=hrel
  by_cases hlt:j<q
  ·have hlt':(j:Int)<q:=by omega
   obtain⟨f,rfl⟩:∃f,gk=f+1:=⟨gk - 1,by omega⟩
   rw [show depN l (f+1) m=if m=0 then some 0 else(depN l f (up l m)).map (· +1)from rfl]at hinv
   by_cases e0:m=0
   ·subst e0
    simp at hinv
    have HE:Hid _:=hinv
    clear hinv hc
    go_wp2
    go_ret2
    exact⟨by rw [HE.out];rfl,rfl⟩
   ·rw [if_neg e0]at hinv
    obtain⟨a,ha⟩:∃a,l[m]?=some a:=⟨_,List.getElem?_eq_getElem (by omega)⟩
    obtain⟨p0,p1⟩:=hp m a ha (by omega)
    obtain⟨pn,hpn⟩:∃pn:Nat,a.pa=pn:=⟨a.pa.toNat,by omega⟩
    have hup:up l m=pn:=by rw [up_of ha,hpn];simp
    rw [hup]at hinv
    have d1:=(hc m a ha).pa
    rw [hpn]at d1 p1
    rw [hq]at p1
    have HE:Hid (depN l q n=(depN l f pn).map (· +(j+1))):=show depN l q n=(depN l f pn).map (· +(j+1)) by
     rw [hinv]
     cases depN l f pn with
     | none=>rfl
     | some k=>simp;omega
    have e0':¬(m:Int)=0:=by omega
    have hm':(m:Int)<q:=by omega
    clear hinv hc ha hpn hup
    go_wp2
    go_roundg f
    case measure=>omega
    case rel=>exact⟨j+1,pn,by omega,rfl,rfl,by omega,rfl,HE.out⟩
  ·have hlt':¬(j:Int)<q:=by omega
   obtain rfl:gk=0:=by omega
   have HE:Hid (depN l q n=none):=show depN l q n=none by rw [hinv];rfl
   clear hinv hc
   go_wp2
   go_ret2
   exact⟨by rw [HE.out];rfl,rfl⟩
end Go.Proofs.YtceoibfliggalaaGreatDoor
namespace Go.Proofs.YtceoibfliggalaaGreatDoor
open Go.RowKit Tr
abbrev KS (s:ByteArray):Lit:=.string s.data.toList
abbrev KI (i:Nat):Lit:=.int .i64 (i:Int)
theorem wfN {k:Nat} (h:k≤35184372088832):(Lit.int .i64 (k:Int)).wf=true:=by
 have h1:IntKind.i64.min= -9223372036854775808:=rfl
 have h2:IntKind.i64.max=9223372036854775807:=rfl
 simp only [Lit.wf,h1,h2,Bool.and_eq_true,decide_eq_true_eq]
 omega
theorem keyS {s:ByteArray} (h:s.size≤maxLen):keyOf Tryz.prog 9 (.string s)=some (KS s):=by simp [keyOf,Tryz.underlying9,mapKey,h]
theorem keyI {n:Nat} (h:n≤35184372088832):keyOf Tryz.prog 3 (.int .i64 (n:Int))=some (KI n):=Maps.keyOf_int_mk Tryz.underlying3 (wfN h)
theorem KS_inj {s t:ByteArray} (h:KS s=KS t):s=t:=by
 cases s with
 | mk x=>
  cases t with
  | mk y=>
   simp only [KS,Lit.string.injEq]at h
   rw [Array.toList_inj.1 h]
theorem keyedS:Maps.Keyed Tryz.prog 9:=Maps.string_keyed Tryz.underlying9
theorem keyedI:Maps.Keyed Tryz.prog 3:=Maps.int_keyed Tryz.underlying3
def NmD (D:DataW Unit) (l:List Ac):Prop:=∀s:ByteArray,Maps.has D (KS s)=(findV l s).isSome∧∀k,findV l s=some k→∀z,D.atKey (KS s) z=.lit (.int .i64 (k:Int))
def SetD (D:DataW Unit) (P:Nat→Bool):Prop:=∀kl,Maps.has D kl=true↔∃j,kl=KI j∧P j=true
def SetAt (W:World) (k:Nat) (P:Nat→Bool):Prop:=∃D,W.ownsMap Tryz.prog 3 unitElem k 64 D∧SetD D P
def PK (t:Nat) (v:Value) (m:Nat) (kv:Value) (ks:List Nat) (j:Nat):Prop:=j=t∨v.ownBlock=some j∨j=m∨kv.ownBlock=some j∨j∈ks
def mapsV (ks:List Nat):List Value:=ks.map fun k=>.map (some k)
structure PT (W:World) (t:Nat) (v:Value) (m:Nat) (kv:Value) (ks:List Nat) (l:List Ac) (K:Nat→Nat→Bool):Prop where
 blk:W.heap[t]?=some (.cells #[v,.map (some m),kv] 142 (0,0))
 row:W.ownsRow 0 52 5 v l.length (flatA l)
 nms:∃D,W.ownsMap Tryz.prog 9 (plainElem Tryz.prog 3) m l.length D∧NmD D l
 krow:W.ownsRow 0 203 1 kv ks.length (mapsV ks)
 klen:ks.length=l.length
 kids:∀i k,ks[i]?=some k→SetAt W k (K i)
 nodup:ks.Nodup
 apart:m∉ks
theorem SetAt.kept {W W':World} {k:Nat} {P:Nat→Bool} (h:SetAt W k P) (b:W'.heap[k]?=W.heap[k]?):SetAt W' k P:=by
 obtain⟨D,⟨es,clock,h1,h2⟩,h3⟩:=h
 exact⟨D,⟨es,clock,b.trans h1,h2⟩,h3⟩
theorem SetAt.lt {W:World} {k:Nat} {P:Nat→Bool} (h:SetAt W k P):k<W.heap.size:=by
 obtain⟨D,h1,_⟩:=h
 exact h1.lt
theorem PT.lt {W:World} {t:Nat} {v:Value} {m:Nat} {kv:Value} {ks:List Nat} {l:List Ac} {K:Nat→Nat→Bool} (h:PT W t v m kv ks l K):∀j,PK t v m kv ks j→j<W.heap.size:=by
 rintro j (rfl | hj | rfl | hj | hj)
 ·exact (Array.getElem?_eq_some_iff.1 h.blk).1
 ·exact (h.row.lt j hj).2
 ·obtain ⟨D,h1,_⟩:=h.nms
  exact h1.lt
 ·exact (h.krow.lt j hj).2
 ·obtain ⟨i,hi⟩:=List.getElem?_of_mem hj
  exact(h.kids i j hi).lt
theorem row_of {w w':World} {B e sz n:Nat} {v:Value} {vs:List Value} (h:w.ownsRow B e sz v n vs) (b:∀j,v.ownBlock=some j→w'.heap[j]?=w.heap[j]?):w'.ownsRow B e sz v n vs:=by
 refine⟨h.1,?_⟩
 rcases h.2 with h0 | ⟨g,cap,cur,rfl,hb,hg,r⟩
 ·exact .inl h0
 ·exact .inr ⟨g,cap,cur,rfl,hb,(b g rfl).trans hg,r⟩
theorem PT.kept {W W':World} {t:Nat} {v:Value} {m:Nat} {kv:Value} {ks:List Nat} {l:List Ac} {K:Nat→Nat→Bool} (h:PT W t v m kv ks l K) (b:∀j,PK t v m kv ks j→W'.heap[j]?=W.heap[j]?):PT W' t v m kv ks l K:=by
 refine⟨(b t (.inl rfl)).trans h.blk,row_of h.row (fun j hj=>b j (.inr (.inl hj))),?_,row_of h.krow (fun j hj=>b j (.inr (.inr (.inr (.inl hj))))),h.klen,fun i k hk=>(h.kids i k hk).kept (b k (.inr (.inr (.inr (.inr (List.mem_of_getElem? hk)))))),h.nodup,h.apart⟩
 obtain⟨D,⟨es,clock,h1,h2⟩,h3⟩:=h.nms
 exact⟨D,⟨es,clock,(b m (.inr (.inr (.inl rfl)))).trans h1,h2⟩,h3⟩
theorem PT.below {W W':World} {t:Nat} {v:Value} {m:Nat} {kv:Value} {ks:List Nat} {l:List Ac} {K:Nat→Nat→Bool} (h:PT W t v m kv ks l K) (b:Below W.heap.size W W'):PT W' t v m kv ks l K:=h.kept (fun j hj=>b.block j (h.lt j hj))
def Tree (S:Nat→Prop) (W:World) (t:Nat) (l:List Ac) (K:Nat→Nat→Bool):Prop:=∃v m kv ks,PT W t v m kv ks l K∧∀j,PK t v m kv ks j→S j
theorem Tree.kept {S:Nat→Prop} {W W':World} {t:Nat} {l:List Ac} {K:Nat→Nat→Bool} (h:Tree S W t l K) (b:∀j,j<W.heap.size→S j→W'.heap[j]?=W.heap[j]?):Tree S W' t l K:=by
 obtain⟨v,m,kv,ks,h1,h2⟩:=h
 exact⟨v,m,kv,ks,h1.kept (fun j hj=>b j (h1.lt j hj) (h2 j hj)),h2⟩
theorem Tree.below {S:Nat→Prop} {W W':World} {t:Nat} {l:List Ac} {K:Nat→Nat→Bool} (h:Tree S W t l K) (b:Below W.heap.size W W'):Tree S W' t l K:=h.kept (fun j hj _=>b.block j hj)
theorem Tree.mono {S S':Nat→Prop} {W:World} {t:Nat} {l:List Ac} {K:Nat→Nat→Bool} (h:Tree S W t l K) (b:∀j,j<W.heap.size→S j→S' j):Tree S' W t l K:=by
 obtain⟨v,m,kv,ks,h1,h2⟩:=h
 exact⟨v,m,kv,ks,h1,fun j hj=>b j (h1.lt j hj) (h2 j hj)⟩
structure Cells (W:World) (t:Nat) (ao:Option Addr) (l:List Ac) (c m:Nat) (kv:Value):Prop where
 c0:W.cell? ⟨t,0,none⟩=some (.slice ao l.length c)
 c1:W.cell? ⟨t,1,none⟩=some (.map (some m))
 c2:W.cell? ⟨t,2,none⟩=some kv
 acs:AcsAt W ao l
theorem PT.cells {W:World} {t:Nat} {v:Value} {m:Nat} {kv:Value} {ks:List Nat} {l:List Ac} {K:Nat→Nat→Bool} (h:PT W t v m kv ks l K):∃ao c,v=.slice ao l.length c∧Cells W t ao l c m kv:=by
 obtain⟨ao,c,rfl,h1,h2⟩:=acs_row h.row
 exact⟨ao,c,rfl,cells_at h.blk rfl,cells_at h.blk rfl,cells_at h.blk rfl,h1⟩
theorem look_names {W:World} {m n:Nat} {D:DataW Unit} {l:List Ac} (h:W.ownsMap Tryz.prog 9 (plainElem Tryz.prog 3) m n D) (hD:NmD D l) {s:ByteArray} (hs:s.size≤maxLen):
  (Instr.lookup 139 (.map (some m)) (.string s) true).run Tryz.prog W=.ok (.tuple #[.int .i64 ((findV l s).getD 0:Nat),.bool (findV l s).isSome]) W:=by
 obtain⟨v,ps,h1,h2⟩:=h.look_ok keyedS Tryz.underlying139 (z:=.int .i64 0) (zd:=.lit (.int .i64 0)) (zp:= []) (Tryz.zeroValue3 W) (plainElem_int Tryz.underlying3 (wfN (k:=0) (by omega))) (keyS hs)
 obtain⟨g1,g2⟩:=hD s
 rw [h1,g1]
 obtain⟨a,rfl,h3,_⟩:=plainElem_int_inv Tryz.underlying3 h2
 cases hf:findV l s with
 | none=>
  rw [hf]at g1
  rw [Maps.atKey_of_not_has g1]at h3
  simp at h3
  rw [← h3.1]
  rfl
 | some k=>
  rw [g2 k hf]at h3
  simp at h3
  rw [← h3.1]
  rfl
end Go.Proofs.YtceoibfliggalaaGreatDoor
namespace Go.Proofs.YtceoibfliggalaaGreatDoor
open Go.RowKit Tr
def refV (l:List Ac) (s:ByteArray) (known:Bool) (sh:Int):Int:=
 if okName s=false then 60 else if (findV l s).isSome=true then 61 else if known=false then 62 else if okSh sh=false then 63 else 0
set_option maxHeartbeats 1000000 in
set_option maxRecDepth 20000 in
theorem refuses_any {W:World} {t:Nat} {v:Value} {m:Nat} {kv:Value} {ks:List Nat} {l:List Ac} {K:Nat→Nat→Bool} (h:PT W t v m kv ks l K) {s:ByteArray} (hs:s.size≤maxLen) (kn:Bool) (sh:Int):
  Calls Tryz.prog 136 #[.pointer (some ⟨t,0,none⟩),.string s,.bool kn,.int .i64 sh] W fun e w'=>e=.returned (.int .i64 (refV l s kn sh))∧W=w':=by
 obtain⟨ao,c,rfl,_,c1,_,_⟩:=h.cells
 obtain⟨D,h1,h2⟩:=h.nms
 have hl:=look_names h1 h2 hs
 have hn:=pname_any s W
 have hsh:=pshares_any sh W
 clear h h1 h2
 unfold refV
 obtain⟨o1,q1⟩:∃o,okName s=o:=⟨_,rfl⟩
 obtain⟨o2,q2⟩:∃o,findV l s=o:=⟨_,rfl⟩
 obtain⟨o3,q3⟩:∃o,okSh sh=o:=⟨_,rfl⟩
 rw [q1]at hn ⊢
 rw [q2]at hl ⊢
 rw [q3]at hsh ⊢
 clear q1 q2 q3
 cases o1 with
 | false=>
  go_enter Tryz.func136,Tryz.ntmps136
  go_wp2_with fail
  refine hn.mono ?_
  rintro e w1 ⟨rfl,rfl⟩
  go_wp2
  go_ret
  exact⟨rfl,rfl⟩
 | true=>
  cases o2 with
  | some k=>
   simp only [Option.getD_some,Option.isSome_some]at hl
   go_enter Tryz.func136,Tryz.ntmps136
   go_wp2_with fail
   refine hn.mono ?_
   rintro e w1 ⟨rfl,rfl⟩
   go_wp2
   go_ret
   exact⟨rfl,rfl⟩
  | none=>
   simp only [Option.getD_none,Option.isSome_none]at hl
   cases kn with
   | false=>
    go_enter Tryz.func136,Tryz.ntmps136
    go_wp2_with fail
    refine hn.mono ?_
    rintro e w1 ⟨rfl,rfl⟩
    go_wp2
    go_ret
    exact⟨rfl,rfl⟩
   | true=>
    go_enter Tryz.func136,Tryz.ntmps136
    go_wp2_with fail
    refine hn.mono ?_
    rintro e w1 ⟨rfl,rfl⟩
    go_wp2_with fail
    refine hsh.mono ?_
    rintro e w1 ⟨rfl,rfl⟩
    cases o3 with
    | false=>
     go_wp2
     go_ret
     exact⟨rfl,rfl⟩
    | true=>
     go_wp2
     go_ret
     exact⟨rfl,rfl⟩
set_option maxRecDepth 20000 in
theorem made0 (w:World) (te sz:Nat):(w.alloc (.cells #[] te)).ownsRow w.heap.size te sz (.slice (some ⟨w.heap.size,0,none⟩) 0 0) 0 []:=⟨by simp,.inr ⟨w.heap.size,0,#[],rfl,Nat.le_refl _,heap_alloc_new w _,Nat.le_refl _,by decide,by simp,by simp⟩⟩
set_option maxHeartbeats 1000000 in
set_option maxRecDepth 20000 in
theorem sclone_any {w:World} {ad:Addr} {l:List Ac} {c:Nat} (h2:AcsAt w (some ad) l) (hn:l.length*48≤140737488355328):
  Calls Tryz.prog 101 #[.slice (some ad) l.length c] w fun e w'=>∃v,e=.returned v∧w'.ownsRow w.heap.size 52 5 v l.length (flatA l)∧Below w.heap.size w w':=by
 obtain⟨i0,hi0,hz0,hz1,hz2⟩:=info_parts Tryz.inf52
 have b0:Below w.heap.size w (w.alloc (.cells #[] 52)):=(Below.refl _ w).alloc (Nat.le_refl _) _
 have hcell:=acs_flat (h2.below b0)
 have hfl:=flatA_len l
 obtain⟨q,hq⟩:∃q,l.length=q:=⟨_,rfl⟩
 rw [hq]at hn hfl ⊢
 have hq:=fun w=>Lib.run_eql_slice_nil (P:=Tryz.prog) w 24 52 (some ad) q c 0 0 Tryz.underlying24
 have HFL:Hid _:=hfl
 have HC:Hid _:=hcell
 have HM:Hid _:=made0 w 52 5
 clear h2 hfl hcell
 go_enter Tryz.func101,Tryz.ntmps101
 go_wp2_with (at_builtin;refine wpList_append_any rfl (.tmp 5) (.tmp 6) 24 rfl w.heap.size 52 i0 _ 5 48 Tryz.underlying24 hi0 hz0 hz1 hz2 rfl (by decide) (.slice (some ⟨w.heap.size,0,none⟩) 0 0) 0 [] rfl HM.out (some ad) q c (flatA l) rfl (fun h=>by cases h) HFL.out HC.out (flatA_one l) ?_ ?_ ?_ ?_;exact(Nat.le_trans (m:=35184372088832) (by omega) (by decide));omega;(simp);intro v' w5 hown hgr)
 go_ret
 refine⟨_,rfl,by simpa using hown,?_⟩
 exact b0.grown hgr (by simp) (fun k e=>by simp [Value.ownBlock]at e;omega)
set_option maxRecDepth 20000 in
theorem plist_any {W:World} {t:Nat} {v:Value} {m:Nat} {kv:Value} {ks:List Nat} {l:List Ac} {K:Nat→Nat→Bool} (h:PT W t v m kv ks l K) (hn:l.length*48≤140737488355328) (hl:l≠ []):
  Calls Tryz.prog 43 #[.pointer (some ⟨t,0,none⟩)] W fun e w'=>∃v,e=.returned v∧w'.ownsRow W.heap.size 52 5 v l.length (flatA l)∧Below W.heap.size W w':=by
 obtain⟨ao,c,rfl,c0,_,_,ha⟩:=h.cells
 obtain⟨ad,rfl⟩:∃ad,ao=some ad:=by
  obtain⟨g,o,hg,_⟩:=ha
  exact⟨_,hg (List.length_pos_iff.2 hl)⟩
 have hc:=sclone_any (c:=c) ha hn
 clear h ha
 go_enter Tryz.func43,Tryz.ntmps43
 go_wp2_with fail
 refine hc.mono ?_
 rintro e w1 ⟨v,rfl,h1,h2⟩
 go_wp2
 go_ret
 exact⟨v,rfl,h1,h2⟩
end Go.Proofs.YtceoibfliggalaaGreatDoor
namespace Go.Proofs.YtceoibfliggalaaGreatDoor
open Go.RowKit Tr
theorem step_app {P:Program} {ops:Array Oper} {o:Oper} {a:Act} {w:World} {K:Act→World→Prop} {Q:Exit→Act→World→Prop} {E:Prop}
  (hgd:o.guard=none) (s x:Operand) (t:TypeId) (ho:o.op=.call {callee:=.builtin .append,args:= #[s,x],argTypes:= #[t,t]})
  (e:TypeId) (i:TypeInfo) (z:Value) (size bytes:Nat) (h1:P.underlying t=some (.slice e)) (h2:P.info? e=some i) (h3:i.zero=some z) (h4:i.size=size) (h5:i.bytes=bytes) (h6:z.cells.size=size) (h7:0<size)
  (v:Value) (n:Nat) (xs:List Value) (hs:a.eval s=v) (hown:w.ownsRow 0 e size v n xs)
  (ad:Addr) (m c:Nat) (news:List Value) (hx:a.eval x=.slice (some ad) m c) (hl:news.length=m*size) (hnews:∀j u,news[j]?=some u→w.cell? (ad.add j)=some u) (hone:∀u∈news,u.oneCell'=true)
  (b1:n+m≤maxLen) (b2:(n+m)*bytes≤140737488355328)
  (hK:∀v' w',w'.ownsRow 0 e size v' (n+m) (xs++news)→w.grownBy w' v.ownBlock→(v'.ownBlock=v.ownBlock∨v'.ownBlock=some w.heap.size)→K (a.put o.dst v') w'):
  if Region.wanted o (yielded ops a.tmps)=true then Oper.wp P o a w K Q else E:=by
 have hw:Region.wanted o (yielded ops a.tmps)=true:=by simp [Region.wanted,hgd]
 rw [if_pos hw]
 obtain⟨v',w',hrun,r1,r2,_,r4⟩:=run_append_own_at (P:=P) w 0 t o.type e i z size bytes h1 h2 h3 h4 h5 h6 h7 v n xs hown ad m c news hl hnews hone b1 b2 (Nat.zero_le _)
 unfold Oper.wp
 simp [execOp,ho,resolve,invoke,builtin,hs,hx,hrun,Result.andThen]
 exact hK _ _ r1 r2 r4
structure LayA (w0 w:World) (t:Nat) (v0 v:Value) (m:Nat) (kv:Value) (ks:List Nat) (l:List Ac) (K:Nat→Nat→Bool) (b:Nat) (a:Ac):Prop where
 blk:w.heap[t]?=some (.cells #[v,.map (some m),kv] 142 (0,0))
 row:w.ownsRow 0 52 5 v (l.length+1) (flatA (l++ [a]))
 nms:∃D,w.ownsMap Tryz.prog 9 (plainElem Tryz.prog 3) m l.length D∧NmD D l
 krow:w.ownsRow 0 203 1 kv ks.length (mapsV ks)
 kids:∀i k,ks[i]?=some k→SetAt w k (K i)
 box:w.heap[b]?=some (.cells #[.string a.nm,.int .i64 a.pa,.int .i64 a.sh,.bool a.cl,.int .u64 a.us] 52 (0,0))
 chg:Chg (PK t v0 m kv ks) w0 w
 new:∀j,v.ownBlock=some j→v0.ownBlock=some j∨w0.heap.size≤j
theorem own_tag {W:World} {B e sz n:Nat} {v:Value} {vs:List Value} (h:W.ownsRow B e sz v n vs):∀j,v.ownBlock=some j→∃cs,W.heap[j]?=some (.cells cs e (0,0)):=by
 intro j hj
 rcases h.2 with⟨rfl,_⟩ | ⟨g,cap,cur,rfl,hb,hg,r⟩
 ·simp [Value.ownBlock]at hj
 ·simp [Value.ownBlock]at hj
  subst hj
  exact⟨cur,hg⟩
theorem map_tag {W:World} {k:TypeId} {R:Value→Option (DataW Unit×List MemPlace)} {b n:Nat} {D:DataW Unit} (h:W.ownsMap Tryz.prog k R b n D):∃es c,W.heap[b]?=some (.map es c):=by
 obtain⟨es,c,h1,_⟩:=h
 exact⟨es,c,h1⟩
theorem set_tag {W:World} {b:Nat} {P:Nat→Bool} (h:SetAt W b P):∃es c,W.heap[b]?=some (.map es c):=by
 obtain⟨D,h1,_⟩:=h
 exact map_tag h1
theorem PT.layA {w0 wb W w1:World} {t:Nat} {v v':Value} {m:Nat} {kv:Value} {ks:List Nat} {l:List Ac} {K:Nat→Nat→Bool} {a:Ac} (h:PT w0 t v m kv ks l K) (hb:Below w0.heap.size w0 wb) {b:Nat} (hbb:w0.heap.size≤b)
  (hbox:wb.heap[b]?=some (.cells #[.string a.nm,.int .i64 a.pa,.int .i64 a.sh,.bool a.cl,.int .u64 a.us] 52 (0,0))) (hW:Below wb.heap.size wb W)
  (hrow:w1.ownsRow 0 52 5 v' (l.length+1) (flatA l++flatA [a])) (hg:W.grownBy w1 v.ownBlock) (hat:v'.ownBlock=v.ownBlock∨v'.ownBlock=some W.heap.size):
  w1.cell? ⟨t,0,none⟩=some v∧w1.frozen? ⟨t,0,none⟩=false∧LayA w0 (w1.setCell ⟨t,0,none⟩ v') t v v' m kv ks l K b a:=by
 have hbs:=(Array.getElem?_eq_some_iff.1 hbox).1
 have h1:=(h.below hb).below hW
 have hlt:=h.lt
 have hsz:w0.heap.size≤W.heap.size:=Nat.le_trans hb.size hW.size
 have tv:∀j,v.ownBlock=some j→∃cs,W.heap[j]?=some (.cells cs 52 (0,0)):=own_tag h1.row
 have keep:∀j,j<W.heap.size→v.ownBlock≠some j→w1.heap[j]?=W.heap[j]?:=fun j hj hn=>hg.block j hj (fun e=>hn e.symm)
 have hbW:W.heap[b]?=some (.cells #[.string a.nm,.int .i64 a.pa,.int .i64 a.sh,.bool a.cl,.int .u64 a.us] 52 (0,0)):=(hW.block b hbs).trans hbox
 have nt:v.ownBlock≠some t:=fun e=>by
  obtain⟨cs,hc⟩:=tv t e
  rw [h1.blk]at hc
  cases hc
 have g1:=(keep t (h1.lt t (.inl rfl)) nt).trans h1.blk
 have g2:=heap_setCell_same w1 t 0 _ 142 v' g1
 have other:∀j,j≠t→(w1.setCell ⟨t,0,none⟩ v').heap[j]?=w1.heap[j]?:=fun j hj=>Below.heap_setCell _ _ _ _ hj
 have k2:∀j,j<W.heap.size→v.ownBlock≠some j→j≠t→(w1.setCell ⟨t,0,none⟩ v').heap[j]?=W.heap[j]?:=fun j hj hn ht=>(other j ht).trans (keep j hj hn)
 refine⟨cells_at g1 rfl,frozen_at g1,⟨g2,?_,?_,?_,fun i k hk=>?_,?_,?_,fun j hj=>?_⟩⟩
 ·rw [flatA_app]
  refine row_of hrow (fun j hj=>other j (fun e=>?_))
  subst e
  obtain⟨cs,hc⟩:=own_tag hrow j hj
  rw [g1]at hc
  cases hc
 ·obtain ⟨D,hD1,hD2⟩:=h1.nms
  obtain⟨es,c,hm⟩:=map_tag hD1
  refine⟨D,?_,hD2⟩
  obtain⟨es',c',q1,q2⟩:=hD1
  refine⟨es',c',(k2 m (h1.lt m (.inr (.inr (.inl rfl)))) (fun e=>?_) (fun e=>?_)).trans q1,q2⟩
  ·obtain ⟨cs,hc⟩:=tv m e
   rw [hm]at hc
   cases hc
  ·subst e
   rw [h1.blk]at hm
   cases hm
 ·refine row_of h1.krow (fun j hj=>?_)
  obtain⟨cs,hc⟩:=own_tag h1.krow j hj
  refine k2 j (h1.lt j (.inr (.inr (.inr (.inl hj))))) (fun e=>?_) (fun e=>?_)
  ·obtain ⟨cs',hc'⟩:=tv j e
   rw [hc]at hc'
   cases hc'
  ·subst e
   rw [h1.blk]at hc
   cases hc
 ·have hs:=h1.kids i k hk
  obtain⟨es,c,hm⟩:=set_tag hs
  refine hs.kept (k2 k hs.lt (fun e=>?_) (fun e=>?_))
  ·obtain ⟨cs,hc⟩:=tv k e
   rw [hm]at hc
   cases hc
  ·subst e
   rw [h1.blk]at hm
   cases hm
 ·refine (k2 b (Nat.lt_of_lt_of_le hbs hW.size) (fun e=>?_) (fun e=>?_)).trans hbW
  ·have:=hlt b (.inr (.inl e))
   omega
  ·have:=hlt t (.inl rfl)
   omega
 ·have c1:Chg (PK t v m kv ks) w0 W:=(Chg.of_below hb _).trans (Chg.of_below hW (PK t v m kv ks)) (fun _ _ h=>h)
  have c2:Chg (PK t v m kv ks) w0 w1:=c1.trans (Chg.of_gr hg (K:=PK t v m kv ks) (fun k e=>.inl (.inr (.inl e)))) (fun _ _ h=>h)
  exact c2.setCell _ _ (.inl (.inl rfl))
 ·rcases hat with e | e
  ·exact .inl (e▸hj)
  ·rw [e]at hj
   cases hj
   exact .inr hsz
end Go.Proofs.YtceoibfliggalaaGreatDoor
namespace Go.Proofs.YtceoibfliggalaaGreatDoor
open Go.RowKit Tr
theorem find_app (l:List Ac) (a:Ac) (s:ByteArray):findV (l++ [a]) s=(findV l s).or (if a.nm=s then some l.length else none):=by
 induction l with
 | nil=>
  show (if a.nm=s then some 0 else(findV [] s).map (· +1))=_
  by_cases h:a.nm=s
  ·simp [h,findV]
  ·simp [h,findV]
 | cons b l ih=>
  show (if b.nm=s then some 0 else(findV (l++ [a]) s).map (· +1))=(if b.nm=s then some 0 else(findV l s).map (· +1)).or _
  by_cases h:b.nm=s
  ·simp [h]
  ·rw [if_neg h,if_neg h,ih]
   cases findV l s with
   | some k=>simp
   | none=>
    by_cases h2:a.nm=s
    ·simp [h2]
    ·simp [h2]
theorem keyLitS (s:ByteArray):WideAt.IsKeyLit (KS s):=trivial
theorem NmD.add {D:DataW Unit} {l:List Ac} (h:NmD D l) (hD:Maps.IsMap D) {a:Ac} (hf:findV l a.nm=none):NmD (D.put (KS a.nm) (.lit (.int .i64 (l.length:Int)))) (l++ [a]):=by
 intro s
 rw [find_app]
 by_cases e:a.nm=s
 ·subst e
  rw [hf,if_pos rfl]
  refine⟨Maps.has_put_same hD (keyLitS _) _,fun k hk z=>?_⟩
  simp at hk
  subst hk
  exact Maps.atKey_put_same hD (keyLitS _) _ _
 ·have hne:KS s≠KS a.nm:=fun x=>e (KS_inj x).symm
  rw [if_neg e,Option.or_none]
  obtain⟨h1,h2⟩:=h s
  refine⟨(Maps.has_put_other hne _).trans h1,fun k hk z=>?_⟩
  rw [Maps.atKey_put_other hne]
  exact h2 k hk z
structure LayB (w0 w:World) (t:Nat) (v0 v:Value) (m:Nat) (kv:Value) (ks:List Nat) (l:List Ac) (K:Nat→Nat→Bool) (a:Ac):Prop where
 blk:w.heap[t]?=some (.cells #[v,.map (some m),kv] 142 (0,0))
 row:w.ownsRow 0 52 5 v (l.length+1) (flatA (l++ [a]))
 nms:∃D,w.ownsMap Tryz.prog 9 (plainElem Tryz.prog 3) m (l.length+1) D∧NmD D (l++ [a])
 krow:w.ownsRow 0 203 1 kv ks.length (mapsV ks)
 kids:∀i k,ks[i]?=some k→SetAt w k (K i)
 chg:Chg (PK t v0 m kv ks) w0 w
 new:∀j,v.ownBlock=some j→v0.ownBlock=some j∨w0.heap.size≤j
theorem Chg.turned {K:Nat→Prop} {w w1 w2:World} {b:Nat} (h:Chg K w w1) (k:w1.mapTurned w2 b) (hK:K b):Chg K w w2:=h.trans (K':=fun i=>i=b) (Chg.of_gr k.grown (fun _ e=>.inl (Option.some.inj e).symm)) (fun _ _ e=>e▸hK)
theorem LayA.name {w0 w:World} {t:Nat} {v0 v:Value} {m:Nat} {kv:Value} {ks:List Nat} {l:List Ac} {K:Nat→Nat→Bool} {b:Nat} {a:Ac} (h:LayA w0 w t v0 v m kv ks l K b a) (hs:a.nm.size≤maxLen) (hf:findV l a.nm=none) (hl:l.length<64) (hm:m∉ks):
  w.cell? ⟨t,1,none⟩=some (.map (some m))∧w.cell? ⟨b,0,none⟩=some (.string a.nm)∧∃w3,(Instr.mapUpdate 139 (.map (some m)) (.string a.nm) (.int .i64 (l.length:Int))).run Tryz.prog w.drew=.ok () w3∧LayB w0 w3 t v0 v m kv ks l K a:=by
 refine⟨cells_at h.blk rfl,cells_at h.box rfl,?_⟩
 obtain⟨D,hD1,hD2⟩:=h.nms
 obtain⟨es0,c0,hmt⟩:=map_tag hD1
 have hD1':w.drew.ownsMap Tryz.prog 9 (plainElem Tryz.prog 3) m l.length D:=hD1
 obtain⟨w3,hrun,ho3,ht3⟩:=hD1'.store keyedS Tryz.underlying139 (Nat.lt_of_lt_of_le hl (by decide)) (keyS hs) (plainElem_int Tryz.underlying3 (wfN (k:=l.length) (by omega)))
 have g3:=ht3.grown
 have keep:∀j,j<w.heap.size→j≠m→w3.heap[j]?=w.heap[j]?:=fun j hj hn=>g3.block j hj (fun e=>hn (Option.some.inj e))
 have nm1:∀j cs e f,w.heap[j]?=some (.cells cs e f)→j≠m:=fun j cs e f hj e'=>by
  subst e'
  rw [hmt]at hj
  cases hj
 refine⟨w3,hrun,⟨(keep t (Array.getElem?_eq_some_iff.1 h.blk).1 (nm1 _ _ _ _ h.blk)).trans h.blk,?_,⟨_,ho3,hD2.add hD1.isMap hf⟩,?_,fun i k hk=>?_,?_,h.new⟩⟩
 ·refine row_of h.row (fun j hj=>?_)
  obtain⟨cs,hc⟩:=own_tag h.row j hj
  exact keep j (Array.getElem?_eq_some_iff.1 hc).1 (nm1 _ _ _ _ hc)
 ·refine row_of h.krow (fun j hj=>?_)
  obtain⟨cs,hc⟩:=own_tag h.krow j hj
  exact keep j (Array.getElem?_eq_some_iff.1 hc).1 (nm1 _ _ _ _ hc)
 ·have hk1:=h.kids i k hk
  exact hk1.kept (keep k hk1.lt (fun e=>hm (e▸List.mem_of_getElem? hk)))
 ·exact h.chg.drew.turned ht3 (.inr (.inr (.inl rfl)))
theorem setD_none:SetD (.map []:DataW Unit) (fun _=>false):=fun kl=>⟨fun h=>(by cases h),fun⟨j,_,h⟩=>(by cases h)⟩
theorem LayB.last {w0 w w1:World} {t:Nat} {v0 v:Value} {m:Nat} {kv kv':Value} {ks:List Nat} {l:List Ac} {K:Nat→Nat→Bool} {a:Ac} (h:LayB w0 w t v0 v m kv ks l K a) (hlen:ks.length=l.length) (hnd:ks.Nodup) (hm:m∉ks) (hK:∀j,K l.length j=false)
  (hrow:w1.ownsRow 0 203 1 kv' (ks.length+1) (mapsV ks++ [.map (some w.heap.size)])) (hg:((w.alloc (.map #[] 0)).alloc (.cells #[.map (some w.heap.size)] 203)).grownBy w1 kv.ownBlock) (hat:kv'.ownBlock=kv.ownBlock∨kv'.ownBlock=some (w.heap.size+2)):
  w1.cell? ⟨t,2,none⟩=some kv∧w1.frozen? ⟨t,2,none⟩=false∧PT (w1.setCell ⟨t,2,none⟩ kv') t v m kv' (ks++ [w.heap.size]) (l++ [a]) K∧Chg (PK t v0 m kv ks) w0 (w1.setCell ⟨t,2,none⟩ kv')∧(∀j,PK t v m kv' (ks++ [w.heap.size]) j→PK t v0 m kv ks j∨w0.heap.size≤j):=by
 have hsz:=h.chg.size
 obtain⟨W,hW⟩:∃W,(w.alloc (.map #[] 0)).alloc (.cells #[.map (some w.heap.size)] 203)=W:=⟨_,rfl⟩
 rw [hW]at hg
 have hWs:W.heap.size=w.heap.size+2:=by rw [← hW];simp
 have hbW:Below w.heap.size w W:=by rw [← hW];exact((Below.refl _ w).alloc (Nat.le_refl _) _).alloc (by simp) _
 have hnew:W.heap[w.heap.size]?=some (.map #[] 0):=by
  rw [← hW]
  exact(Below.heap_alloc _ _ _ (by simp)).trans (heap_alloc_new w _)
 have tk:∀j,kv.ownBlock=some j→∃cs,w.heap[j]?=some (.cells cs 203 (0,0)):=own_tag h.krow
 have keep:∀j,j<W.heap.size→kv.ownBlock≠some j→w1.heap[j]?=W.heap[j]?:=fun j hj hn=>hg.block j hj (fun e=>hn e.symm)
 have keep0:∀j,j<w.heap.size→kv.ownBlock≠some j→w1.heap[j]?=w.heap[j]?:=fun j hj hn=>(keep j (by omega) hn).trans (hbW.block j hj)
 have tlt:=(Array.getElem?_eq_some_iff.1 h.blk).1
 have nt:kv.ownBlock≠some t:=fun e=>by
  obtain⟨cs,hc⟩:=tk t e
  rw [h.blk]at hc
  cases hc
 have g1:=(keep0 t tlt nt).trans h.blk
 have g2:=heap_setCell_same w1 t 2 _ 142 kv' g1
 have other:∀j,j≠t→(w1.setCell ⟨t,2,none⟩ kv').heap[j]?=w1.heap[j]?:=fun j hj=>Below.heap_setCell _ _ _ _ hj
 have k2:∀j,j<w.heap.size→kv.ownBlock≠some j→j≠t→(w1.setCell ⟨t,2,none⟩ kv').heap[j]?=w.heap[j]?:=fun j hj hn ht=>(other j ht).trans (keep0 j hj hn)
 have mne:∀j es c,w.heap[j]?=some (.map es c)→kv.ownBlock≠some j∧j≠t:=fun j es c hj=>by
  refine⟨fun e=>?_,fun e=>?_⟩
  ·obtain ⟨cs,hc⟩:=tk j e
   rw [hj]at hc
   cases hc
  ·subst e
   rw [h.blk]at hj
   cases hj
 have hnk:w.heap.size∉ks:=fun hx=>by
  obtain⟨i,hi⟩:=List.getElem?_of_mem hx
  have:=(h.kids i _ hi).lt
  omega
 refine⟨cells_at g1 rfl,frozen_at g1,⟨g2,?_,?_,?_,by simp [hlen],fun i k hk=>?_,?_,?_⟩,?_,?_⟩
 ·have hr:=row_of h.row (w':=w1.setCell ⟨t,2,none⟩ kv') (fun j hj=>by
   obtain⟨cs,hc⟩:=own_tag h.row j hj
   refine k2 j (Array.getElem?_eq_some_iff.1 hc).1 (fun e=>?_) (fun e=>?_)
   ·obtain ⟨cs',hc'⟩:=tk j e
    rw [hc]at hc'
    cases hc'
   ·subst e
    rw [h.blk]at hc
    cases hc)
  simpa using hr
 ·obtain ⟨D,hD1,hD2⟩:=h.nms
  obtain⟨es,c,hmt⟩:=map_tag hD1
  obtain⟨e1,e2⟩:=mne m es c hmt
  obtain⟨es',c',q1,q2⟩:=hD1
  exact⟨D,⟨es',c',(k2 m (Array.getElem?_eq_some_iff.1 hmt).1 e1 e2).trans q1,by simpa using q2⟩,hD2⟩
 ·have hr:=row_of hrow (w':=w1.setCell ⟨t,2,none⟩ kv') (fun j hj=>other j (fun e=>by
   subst e
   obtain⟨cs,hc⟩:=own_tag hrow j hj
   rw [g1]at hc
   cases hc))
  simpa [mapsV]using hr
 ·by_cases hi:i<ks.length
  ·rw [List.getElem?_append_left hi]at hk
   have hs:=h.kids i k hk
   obtain⟨es,c,hmt⟩:=set_tag hs
   obtain⟨e1,e2⟩:=mne k es c hmt
   exact hs.kept (k2 k hs.lt e1 e2)
  ·rw [List.getElem?_append_right (by omega)]at hk
   have hi':i - ks.length<1:=by simpa using (List.getElem?_eq_some_iff.1 hk).1
   have:i=l.length:=by omega
   subst this
   rw [show l.length - ks.length=0 by omega]at hk
   simp at hk
   subst hk
   have hKf:K l.length=fun _=>false:=funext hK
   rw [hKf]
   refine⟨.map [],?_,setD_none⟩
   have hm0:=(World.ownsMap_made (H:=Unit) w Tryz.prog 3 unitElem).mono (Nat.zero_le 64)
   obtain⟨es,c,q1,q2⟩:=hm0
   rw [heap_alloc_new]at q1
   cases q1
   refine⟨#[],0,?_,q2⟩
   refine(other _ (by omega)).trans ((keep _ (by omega) (fun e=>?_)).trans hnew)
   obtain⟨cs,hc⟩:=tk _ e
   have:=(Array.getElem?_eq_some_iff.1 hc).1
   omega
 ·rw [List.nodup_append]
  refine⟨hnd,by simp,fun x hx y hy=>?_⟩
  simp at hy
  subst hy
  exact fun e=>hnk (e▸hx)
 ·simp only [List.mem_append,List.mem_singleton,not_or]
  refine⟨hm,fun e=>?_⟩
  obtain⟨D,hD1,_⟩:=h.nms
  have:=hD1.lt
  omega
 ·have c1:Chg (PK t v0 m kv ks) w0 W:=h.chg.trans (Chg.of_below hbW (PK t v0 m kv ks)) (fun _ _ h=>h)
  have c2:Chg (PK t v0 m kv ks) w0 w1:=c1.trans (Chg.of_gr hg (K:=PK t v0 m kv ks) (fun k e=>.inl (.inr (.inr (.inr (.inl e)))))) (fun _ _ h=>h)
  exact c2.setCell _ _ (.inl (.inl rfl))
 ·rintro j (rfl | hj | rfl | hj | hj)
  ·exact .inl (.inl rfl)
  ·rcases h.new j hj with e | e
   ·exact .inl (.inr (.inl e))
   ·exact .inr e
  ·exact .inl (.inr (.inr (.inl rfl)))
  ·rcases hat with e | e
   ·exact .inl (.inr (.inr (.inr (.inl (e▸hj)))))
   ·rw [e]at hj
    cases hj
    exact .inr (by omega)
  ·simp only [List.mem_append,List.mem_singleton]at hj
   rcases hj with e | e
   ·exact .inl (.inr (.inr (.inr (.inr e))))
   ·exact .inr (by omega)
theorem Tryz.inf203:(Tryz.prog.info? 203).map (fun i=>(i.zero,i.size,i.bytes))=some (some (.map none),1,8):=by kernel_rfl
set_option maxRecDepth 20000 in
theorem sl_shape {w:World} {B e sz n:Nat} {v:Value} {vs:List Value} (h:w.ownsRow B e sz v n vs):∃ao c,v=.slice ao n c:=by
 rcases h.2 with⟨rfl,h0⟩ | ⟨g,cap,cur,rfl,_⟩
 ·exact ⟨none,0,by rw [h0]⟩
 ·exact ⟨_,_,rfl⟩
set_option maxRecDepth 20000 in
theorem wb_al (wb:World) (o:Obj):Below wb.heap.size wb (wb.drew.alloc o):=(⟨rfl,rfl,rfl,Nat.le_refl _,fun _ _=>rfl⟩:Below wb.heap.size wb wb.drew).alloc (Nat.le_refl _) o
set_option maxHeartbeats 2000000 in
set_option maxRecDepth 20000 in
theorem lay_any {w:World} {t:Nat} {v:Value} {m:Nat} {kv:Value} {ks:List Nat} {l:List Ac} {K:Nat→Nat→Bool} (h:PT w t v m kv ks l K) (a:Ac) (hs:a.nm.size≤maxLen) (hf:findV l a.nm=none) (hl:l.length<64) (hK:∀j,K l.length j=false):
  Calls Tryz.prog 99 #[.pointer (some ⟨t,0,none⟩),acV a] w fun e w'=>e=.returned (.int .i64 l.length)∧∃v' kv' k',PT w' t v' m kv' (ks++ [k']) (l++ [plainAc a]) K∧Chg (PK t v m kv ks) w w'∧(∀j,PK t v' m kv' (ks++ [k']) j→PK t v m kv ks j∨w.heap.size≤j):=by
 have hmm:= @run_makeMap Tryz.prog
 obtain⟨i0,hi0,hz0,hz1,hz2⟩:=info_parts Tryz.inf52
 obtain⟨i1,hi1,hy0,hy1,hy2⟩:=info_parts Tryz.inf203
 obtain⟨wb,hwb⟩:∃wb,w.alloc (.cells #[.string a.nm,.int .i64 a.pa,.int .i64 a.sh,.bool a.cl,.int .u64 0] 52)=wb:=⟨_,rfl⟩
 have bb:Below w.heap.size w wb:=by rw [← hwb];exact(Below.refl _ w).alloc (Nat.le_refl _) _
 have y:wb.heap[w.heap.size]?=some (.cells #[.string (plainAc a).nm,.int .i64 (plainAc a).pa,.int .i64 (plainAc a).sh,.bool (plainAc a).cl,.int .u64 (plainAc a).us] 52 (0,0)):=by rw [← hwb];exact heap_alloc_new w _
 obtain⟨ao,c,rfl,c0,c1,c2,_⟩:=(h.below bb).cells
 obtain⟨ao',c',hv0,d0,_,_,_⟩:=h.cells
 cases hv0
 have d1:(w.alloc (.cells #[.string a.nm,.int .i64 a.pa,.int .i64 a.sh,.bool a.cl,.int .u64 a.us] 52)).cell? ⟨t,0,none⟩=some (.slice ao l.length c):=cellB ((Below.refl _ w).alloc (Nat.le_refl _) _) d0
 obtain⟨⟨x0,x1,x2,x3,x4⟩,_⟩:=cells5 y
 simp only [plainAc]at x0 x1 x2 x3 x4
 have c0':(wb.alloc (.cells #[.string a.nm,.int .i64 a.pa,.int .i64 a.sh,.bool a.cl,.int .u64 0] 52)).cell? ⟨t,0,none⟩=some (.slice ao l.length c):=cellB ((Below.refl _ wb).alloc (Nat.le_refl _) _) c0
 have hrow:=(h.below bb).row
 have H:Hid _:=h
 have Y:Hid _:=y
 have hfa:flatA [plainAc a]= [.string a.nm,.int .i64 a.pa,.int .i64 a.sh,.bool a.cl,.int .u64 0]:=rfl
 unfold acV
 clear h y
 go_enter Tryz.func99,Tryz.ntmps99
 go_upto_region 3 with fail
 go_cut [19] (fun p wc=>∃v',p=v'∧LayA w wc t (.slice ao l.length c) v' m kv ks l K w.heap.size (plainAc a))
 case first=>
  go_region_law (refine step_app rfl (.tmp 16) (.tmp 18) 24 rfl 52 i0 _ 5 48 Tryz.underlying24 hi0 hz0 hz1 hz2 rfl (by decide) (.slice ao l.length c) l.length (flatA l) (by simp [Act.eval]) (hrow.alloc _) ⟨wb.heap.size,0,none⟩ 1 1 [.string a.nm,.int .i64 a.pa,.int .i64 a.sh,.bool a.cl,.int .u64 0] (by simp [Act.eval]) rfl (new_cells wb.drew _ 52) (fun u hu=>by simp at hu;rcases hu with rfl | rfl | rfl | rfl | rfl<;>rfl) (Nat.le_trans (m:=35184372088832) (by omega) (by decide)) (by omega) ?_;intro v' w1 r1 g1 r4;obtain⟨ao2,cc2,rfl⟩:=sl_shape r1;obtain⟨e0,e1,LA⟩:=H.out.layA (a:=plainAc a) bb (Nat.le_refl _) Y.out (wb_al wb _) r1 g1 r4)
  all_goals (go_wp2;go_meet)
  all_goals exact⟨_,rfl,LA⟩
 case rest=>
  obtain⟨v',rfl,LA⟩:=hcut
  obtain⟨e0,e1,w3,hrun,LB⟩:=LA.name hs hf hl H.out.apart
  have LBH:Hid _:=LB
  clear LB LA
  simp only [plainAc]at e0 e1 hrun
  go_upto_region 4 with fail
  go_cut [] (fun wc=>LayB w wc t (.slice ao l.length c) u19 m kv ks l K (plainAc a))
  case first=>
   go_region
   all_goals (go_wp2;go_meet)
   all_goals exact LBH.out
  case rest=>
   clear hrun e0 e1 LBH
   have e2:=cells_at hcut.blk (k:=2) rfl
   have kr:=hcut.krow
   have LBH:Hid _:=hcut
   clear hcut
   have hk64:ks.length<64:=by rw [H.out.klen];exact hl
   have hnc:∀i u,[Value.map (some wc.heap.size)][i]?=some u→((wc.alloc (.map #[] 0)).alloc (.cells #[.map (some wc.heap.size)] 203)).cell? ((⟨wc.heap.size+1,0,none⟩:Addr).add i)=some u:=by
    have:=cell_one_new (wc.alloc (.map #[] 0)) (.map (some wc.heap.size)) 203
    rwa [World.size_alloc]at this
   go_wp2_with (at_builtin;refine wpList_append_own_at _ rfl (.tmp 33) (.tmp 35) 140 rfl 0 203 i1 _ 1 8 Tryz.underlying140 hi1 hy0 hy1 hy2 rfl (by decide) kv ks.length (mapsV ks) rfl ((kr.alloc _).alloc _) ⟨wc.heap.size+1,0,none⟩ 1 1 [.map (some wc.heap.size)] rfl rfl hnc (fun u hu=>by simp at hu;subst hu;rfl) ?_ ?_ (Nat.zero_le _) ?_;exact(Nat.le_trans (m:=35184372088832) (by omega) (by decide));omega;intro kv' w1 r1 g1 _ r4;obtain⟨ao2,cc2,rfl⟩:=sl_shape r1;obtain⟨z0,z1,z2,z3,z4⟩:=LBH.out.last H.out.klen H.out.nodup H.out.apart hK r1 g1 (by simpa using r4))
   go_ret
   exact⟨rfl,_,_,_,z2,z3,z4⟩
end Go.Proofs.YtceoibfliggalaaGreatDoor
namespace Go.Proofs.YtceoibfliggalaaGreatDoor
open Go.RowKit Tr
theorem keyLitI (n:Nat):WideAt.IsKeyLit (KI n):=trivial
theorem set_small {W:World} {k N:Nat} {D:DataW Unit} {P:Nat→Bool} (h:W.ownsMap Tryz.prog 3 unitElem k N D) (hD:SetD D P) (hP:∀j,P j=true→j<64):W.ownsMap Tryz.prog 3 unitElem k 64 D:=by
 obtain⟨es',e',hpw,hkl⟩:=h.entries keyedI
 obtain⟨es,clock,hb,F,hs,hDe⟩:=h
 refine⟨es,clock,hb,F,?_,hDe⟩
 have hlen:es'.length=es.size:=by
  rw [hDe]at e'
  injection e' with e'
  rw [← e',length_sorted]
  simp
 rw [← hlen]
 have hnd:(es'.map (·.1)).Nodup:=by
  rw [List.nodup_iff_pairwise_ne,List.pairwise_map]
  exact hpw
 have hsub:es'.map (·.1) ⊆ (List.range 64).map KI:=by
  intro x hx
  obtain⟨p,hp,rfl⟩:=List.mem_map.1 hx
  have hh:Maps.has D p.1=true:=by
   rw [e',Maps.has_eq]
   exact List.any_eq_true.2 ⟨p,hp,WideAt.sameKey_self (hkl p hp)⟩
  obtain⟨j,hj,hPj⟩:=(hD p.1).1 hh
  rw [hj]
  exact List.mem_map.2 ⟨j,List.mem_range.2 (hP j hPj),rfl⟩
 have:=hnd.length_le_of_subset hsub
 simpa using this
theorem SetD.put {D:DataW Unit} {P:Nat→Bool} (h:SetD D P) (hm:Maps.IsMap D) (n:Nat) (d:DataW Unit):SetD (D.put (KI n) d) (fun j=>P j||j==n):=by
 intro kl
 by_cases e:kl=KI n
 ·subst e
  rw [Maps.has_put_same hm (keyLitI n)]
  exact⟨fun _=>⟨n,rfl,by simp⟩,fun _=>rfl⟩
 ·rw [Maps.has_put_other e,h kl]
  refine⟨fun ⟨j,h1,h2⟩=>⟨j,h1,by simp [h2]⟩,fun⟨j,h1,h2⟩=>⟨j,h1,?_⟩⟩
  have:j≠n:=fun e'=>e (e'▸h1)
  simpa [this]using h2
theorem find_set {a':Ac}:∀ {l:List Ac} {n:Nat} {a:Ac},l[n]?=some a→a'.nm=a.nm→∀s,findV (l.set n a') s=findV l s
 | [],n,a,h,_,_=>by simp at h
 | b::l,0,a,h,e,s=>by
  simp at h
  subst h
  simp [findV,e]
 | b::l,n+1,a,h,e,s=>by
  have:=find_set (l:=l) (n:=n) (by simpa using h) e s
  simp [findV,this]
section
variable {W:World} {t:Nat} {v:Value} {m:Nat} {kv:Value} {ks:List Nat} {l:List Ac} {K:Nat→Nat→Bool}
theorem PT.acell {n:Nat} {a:Ac} (h:PT W t v m kv ks l K) (ha:l[n]?=some a):∃g c,v=.slice (some ⟨g,0,none⟩) l.length c∧AcAt W g (n*5) a∧∀k,W.frozen? ⟨g,k,none⟩=false:=by
 have hk:=(List.getElem?_eq_some_iff.1 ha).1
 rcases h.row.2 with⟨_,h0⟩ | ⟨g,cap,cur,rfl,hb,hg,h1,h2,h3,h4⟩
 ·omega
 ·refine ⟨g,cap,rfl,?_,fun k=>frozen_at hg⟩
  obtain⟨e0,e1,e2,e3,e4⟩:=flatA_at l n a ha
  rw [← h4,List.getElem?_take_of_lt (by omega),Array.getElem?_toList]at e0 e1 e2 e3 e4
  exact⟨cells_at hg e0,cells_at hg e1,cells_at hg e2,cells_at hg e3,cells_at hg e4⟩
theorem PT.kcell {p k:Nat} (h:PT W t v m kv ks l K) (hp:ks[p]?=some k):∃g c,kv=.slice (some ⟨g,0,none⟩) l.length c∧W.cell? ⟨g,p,none⟩=some (.map (some k))∧∀j,W.frozen? ⟨g,j,none⟩=false:=by
 have hk:=(List.getElem?_eq_some_iff.1 hp).1
 rw [← h.klen]
 rcases h.krow.2 with⟨_,h0⟩ | ⟨g,cap,cur,rfl,hb,hg,h1,h2,h3,h4⟩
 ·omega
 ·refine ⟨g,cap,rfl,?_,fun k=>frozen_at hg⟩
  have e0:(mapsV ks)[p]?=some (.map (some k)):=by simp [mapsV,hp]
  rw [← h4,List.getElem?_take_of_lt (by omega),Array.getElem?_toList]at e0
  exact cells_at hg e0
theorem PT.setA {l':List Ac} {g k:Nat} {x:Value} (h:PT W t v m kv ks l K) (hg:v.ownBlock=some g) (hf:(flatA l).set k x=flatA l') (hl:l'.length=l.length) (hn:∀s,findV l' s=findV l s):
  PT (W.setCell ⟨g,k,none⟩ x) t v m kv ks l' K∧Chg (PK t v m kv ks) W (W.setCell ⟨g,k,none⟩ x):=by
 have hr:=h.row
 obtain⟨cs,hcs⟩:=own_tag h.row g hg
 have other:∀j,j≠g→(W.setCell ⟨g,k,none⟩ x).heap[j]?=W.heap[j]?:=fun j hj=>Below.heap_setCell _ _ _ _ hj
 refine⟨⟨(other t (fun e=>?_)).trans h.blk,?_,?_,row_of h.krow (fun j hj=>other j (fun e=>?_)),by rw [hl];exact h.klen,fun i k' hk=>?_,h.nodup,h.apart⟩,(Chg.refl _ W).setCell _ _ (.inl (.inr (.inl hg)))⟩
 ·subst e
  rw [h.blk]at hcs
  cases hcs
 ·rcases hr.2 with⟨rfl,_⟩ | ⟨g',cap,cur,rfl,hb,hgg,h1,h2,h3,h4⟩
  ·simp [Value.ownBlock]at hg
  ·simp [Value.ownBlock]at hg
   subst hg
   have e1:=heap_setCell_same W g' k cur 52 x hgg
   refine⟨?_,.inr ⟨g',cap,_,by rw [hl],hb,e1,by rw [hl];exact h1,h2,by simpa using h3,?_⟩⟩
   ·rw [← hf,List.length_set,hl];exact hr.1
   ·rw [Array.toList_setIfInBounds,hl,List.take_set,h4,hf]
 ·obtain ⟨D,hD1,hD2⟩:=h.nms
  obtain⟨es,c,hmt⟩:=map_tag hD1
  obtain⟨es',c',q1,q2⟩:=hD1
  refine⟨D,⟨es',c',(other m (fun e=>?_)).trans q1,by rw [hl];exact q2⟩,fun s=>by rw [hn];exact hD2 s⟩
  subst e
  rw [hmt]at hcs
  cases hcs
 ·subst e
  obtain⟨cs',hc'⟩:=own_tag h.krow j hj
  rw [hcs]at hc'
  cases hc'
 ·have hs:=h.kids i k' hk
  obtain⟨es,c,hmt⟩:=set_tag hs
  refine hs.kept (other k' (fun e=>?_))
  subst e
  rw [hmt]at hcs
  cases hcs
theorem PT.setK {W':World} {p k:Nat} {P:Nat→Bool} (h:PT W t v m kv ks l K) (hp:ks[p]?=some k) (ht:W.mapTurned W' k) (hs:SetAt W' k P):PT W' t v m kv ks l (fun i j=>if i=p then P j else K i j)∧Chg (PK t v m kv ks) W W':=by
 have hmem:=List.mem_of_getElem? hp
 obtain⟨es,c,hkt⟩:=set_tag (h.kids p k hp)
 have g:=ht.grown
 have other:∀j,j<W.heap.size→j≠k→W'.heap[j]?=W.heap[j]?:=fun j hj hn=>g.block j hj (fun e=>hn (Option.some.inj e))
 have ne1:∀j cs e f,W.heap[j]?=some (.cells cs e f)→j≠k:=fun j cs e f hj e'=>by
  subst e'
  rw [hkt]at hj
  cases hj
 refine⟨⟨(other t (h.lt t (.inl rfl)) (ne1 _ _ _ _ h.blk)).trans h.blk,row_of h.row (fun j hj=>?_),?_,row_of h.krow (fun j hj=>?_),h.klen,fun i k' hk=>?_,h.nodup,h.apart⟩,(Chg.refl _ W).turned ht (.inr (.inr (.inr (.inr hmem))))⟩
 ·obtain ⟨cs,hc⟩:=own_tag h.row j hj
  exact other j (Array.getElem?_eq_some_iff.1 hc).1 (ne1 _ _ _ _ hc)
 ·obtain ⟨D,hD1,hD2⟩:=h.nms
  have hlt:=hD1.lt
  obtain⟨es',c',q1,q2⟩:=hD1
  exact⟨D,⟨es',c',(other m hlt (fun e=>h.apart (e▸hmem))).trans q1,q2⟩,hD2⟩
 ·obtain ⟨cs,hc⟩:=own_tag h.krow j hj
  exact other j (Array.getElem?_eq_some_iff.1 hc).1 (ne1 _ _ _ _ hc)
 ·by_cases e:i=p
  ·subst e
   rw [hp]at hk
   cases hk
   simpa using hs
  ·have hs':=h.kids i k' hk
   have hne:k'≠k:=fun e'=>by
    subst e'
    exact e ((List.getElem?_inj (List.getElem?_eq_some_iff.1 hk).1 h.nodup).1 (hk.trans hp.symm))
   simp only [if_neg e]
   exact hs'.kept (other k' hs'.lt hne)
def hangK (K:Nat→Nat→Bool) (n p:Nat):Nat→Nat→Bool:=fun i j=>if i=p then(K p j||j==n)else K i j
theorem PT.hung {n p k:Nat} (h:PT W t v m kv ks l K) (hp:ks[p]?=some k) (hn:n<64) (h64:∀j,K p j=true→j<64):
  ∃W',(Instr.mapUpdate 203 (.map (some k)) (.int .i64 (n:Int)) (.agg #[])).run Tryz.prog W=.ok () W'∧PT W' t v m kv ks l (hangK K n p)∧Chg (PK t v m kv ks) W W':=by
 obtain⟨D,hD1,hD2⟩:=h.kids p k hp
 obtain⟨W',hrun,ho,ht⟩:=hD1.store keyedI Tryz.underlying203 (by decide) (keyI (n:=n) (by omega)) unitElem_mk
 have hs:=hD2.put hD1.isMap n (.agg [])
 refine⟨W',hrun,h.setK hp ht ⟨_,set_small ho hs (fun j hj=>?_),hs⟩⟩
 simp at hj
 rcases hj with hj | hj
 ·exact h64 j hj
 ·omega
end
set_option maxHeartbeats 2000000 in
set_option maxRecDepth 20000 in
theorem hang_any {w:World} {t:Nat} {v:Value} {m:Nat} {kv:Value} {ks:List Nat} {l:List Ac} {K:Nat→Nat→Bool} (h:PT w t v m kv ks l K) {n p:Nat} (hl:l.length≤64) (hn:n<l.length) (hp:p<l.length) (h64:∀j,K p j=true→j<64):
  Calls Tryz.prog 138 #[.pointer (some ⟨t,0,none⟩),.int .i64 n,.int .i64 p] w fun e w'=>e=.returned (.tuple #[])∧PT w' t v m kv ks (mvV l n p) (hangK K n p)∧Chg (PK t v m kv ks) w w':=by
 obtain⟨a,ha⟩:∃a,l[n]?=some a:=⟨_,List.getElem?_eq_getElem hn⟩
 obtain⟨k,hk⟩:∃k,ks[p]?=some k:=⟨_,List.getElem?_eq_getElem (by rw [h.klen];exact hp)⟩
 obtain⟨ao,c,rfl,c0,c1,c2,_⟩:=h.cells
 obtain⟨g,c',hv,⟨d0,d1,d2,d3,d4⟩,hfr⟩:=h.acell ha
 cases hv
 obtain⟨h1,ch1⟩:=h.setA (g:=g) (l':=mvV l n p) rfl (by rw [flatA_pa l n a p ha];unfold mvV;rw [ha]) (mv_len _) (fun s=>by unfold mvV;rw [ha];exact find_set (a':={a with pa:=(p:Int)}) ha rfl s)
 obtain⟨kg,kc,rfl,e0,_⟩:=h1.kcell hk
 rw [mv_len]at h1 ch1 c2 ⊢
 obtain⟨ao1,c1',hv1,f0,f1,f2,_⟩:=h1.cells
 obtain⟨W',hrun,h2,ch2⟩:=h1.hung (n:=n) hk (by omega) h64
 have hn':(n:Int)<l.length:=by omega
 have hp':(p:Int)<l.length:=by omega
 have H2:Hid _:=h2
 have C2:Hid _:=ch1.trans ch2 (fun _ _ h=>h)
 clear h h1 h2 ch1 ch2 hv1 f0
 go_enter Tryz.func138,Tryz.ntmps138
 go_wp2
 go_end0
 exact⟨rfl,H2.out,C2.out⟩
end Go.Proofs.YtceoibfliggalaaGreatDoor
namespace Go.Proofs.YtceoibfliggalaaGreatDoor
open Go.RowKit Tr
set_option maxRecDepth 20000 in
set_option maxHeartbeats 1000000 in
theorem root_any (w:World):Calls Tryz.prog 100 #[] w fun e w'=>e=.returned (acV rootAc)∧Below w.heap.size w w':=by
 go_enter Tryz.func100,Tryz.ntmps100
 go_wp2
 exact bodyPost_ret (v:=acV rootAc) (by simp [results,Tryz.results100,go_sem,acV,rootAc,rootName]) rfl ⟨rfl,(Below.refl _ w).alloc (Nat.le_refl _) _⟩
set_option maxRecDepth 20000 in
set_option maxHeartbeats 1000000 in
theorem isRoot_any (a:Ac) (w:World):Calls Tryz.prog 135 #[acV a] w fun e w'=>e=.returned (.bool (isRoot a))∧Below w.heap.size w w':=by
 have hr:=fun w1=>root_any w1
 obtain⟨nm,pa,sh,cl,us⟩:=a
 unfold acV at hr ⊢
 simp only [rootAc]at hr
 unfold isRoot
 simp only
 obtain⟨wb,hwb⟩:∃wb,w.alloc (.cells #[.string nm,.int .i64 pa,.int .i64 sh,.bool cl,.int .u64 0] 52)=wb:=⟨_,rfl⟩
 have y:=heap_alloc_new w (.cells #[.string nm,.int .i64 pa,.int .i64 sh,.bool cl,.int .u64 0] 52)
 have bb:Below w.heap.size w wb:=by rw [← hwb];exact(Below.refl _ w).alloc (Nat.le_refl _) _
 rw [hwb]at y
 obtain⟨⟨z0,z1,z2,z3,z4⟩,_⟩:=cells5 y
 have hlt:w.heap.size<wb.heap.size:=(Array.getElem?_eq_some_iff.1 y).1
 have HY:Hid _:=y
 clear y
 have fin:∀w1,Below wb.drew.heap.size wb.drew w1→Below w.heap.size w w1:=fun w1 b=>bb.trans (⟨b.os,b.tape,b.output,b.size,fun k hk=>b.block k (Nat.lt_of_lt_of_le hk bb.size)⟩:Below w.heap.size wb w1)
 have kp:∀w1,Below wb.drew.heap.size wb.drew w1→(w1.cell? ⟨w.heap.size,0,none⟩=some (.string nm)∧w1.cell? ⟨w.heap.size,1,none⟩=some (.int .i64 pa)∧w1.cell? ⟨w.heap.size,2,none⟩=some (.int .i64 sh)∧w1.cell? ⟨w.heap.size,3,none⟩=some (.bool cl)∧w1.cell? ⟨w.heap.size,4,none⟩=some (.int .u64 0)):=fun w1 b=>(cells5 ((b.block _ hlt).trans HY.out)).1
 have FIN:Hid _:=fin
 have KP:Hid _:=kp
 clear fin kp
 by_cases h1:nm=rootName
 ·have f1:(nm.toList==rootName.toList)=true:=ba_eq h1
  by_cases h2:pa= -1
  ·by_cases h3:sh=1
   ·rw [decide_eq_true h1,decide_eq_true h2,decide_eq_true h3]
    have f2:(pa== -1)=true:=by simp [h2]
    have f3:(sh==1)=true:=by simp [h3]
    clear h1 h2 h3
    cases cl with
    | true=>
     go_enter Tryz.func135,Tryz.ntmps135
     go_wp2_with fail
     go_region_with (first | (go_at_call 100;refine(hr _).mono ?_;rintro e w1 ⟨rfl,b1⟩;obtain⟨x0,x1,x2,x3,x4⟩:=KP.out _ b1))
     all_goals (go_wp2;go_ret)
     all_goals exact⟨rfl,FIN.out _ b1⟩
    | false=>
     go_enter Tryz.func135,Tryz.ntmps135
     go_wp2_with fail
     go_region_with (first | (go_at_call 100;refine(hr _).mono ?_;rintro e w1 ⟨rfl,b1⟩;obtain⟨x0,x1,x2,x3,x4⟩:=KP.out _ b1))
     all_goals (go_wp2;go_ret)
     all_goals exact⟨rfl,FIN.out _ b1⟩
   ·have f2:(pa== -1)=true:=by simp [h2]
    have f3:(sh==1)=false:=by simp [h3]
    rw [decide_eq_true h1,decide_eq_true h2,decide_eq_false h3]
    clear h1 h2 h3
    go_enter Tryz.func135,Tryz.ntmps135
    go_wp2_with fail
    go_region_with (first | (go_at_call 100;refine(hr _).mono ?_;rintro e w1 ⟨rfl,b1⟩;obtain⟨x0,x1,x2,x3,x4⟩:=KP.out _ b1))
    all_goals (go_wp2;go_ret)
    all_goals exact⟨rfl,FIN.out _ b1⟩
  ·have f2:(pa== -1)=false:=by simp [h2]
   rw [decide_eq_true h1,decide_eq_false h2]
   clear h1 h2
   go_enter Tryz.func135,Tryz.ntmps135
   go_wp2_with fail
   go_region_with (first | (go_at_call 100;refine(hr _).mono ?_;rintro e w1 ⟨rfl,b1⟩;obtain⟨x0,x1,x2,x3,x4⟩:=KP.out _ b1))
   all_goals (go_wp2;go_ret)
   all_goals exact⟨rfl,FIN.out _ b1⟩
 ·have f1:(nm.toList==rootName.toList)=false:=ba_ne h1
  rw [decide_eq_false h1]
  clear h1
  go_enter Tryz.func135,Tryz.ntmps135
  go_wp2_with fail
  go_region_with (first | (go_at_call 100;refine(hr _).mono ?_;rintro e w1 ⟨rfl,b1⟩;obtain⟨x0,x1,x2,x3,x4⟩:=KP.out _ b1))
  all_goals (go_wp2;go_ret)
  all_goals exact⟨rfl,FIN.out _ b1⟩
end Go.Proofs.YtceoibfliggalaaGreatDoor
namespace Go.Proofs.YtceoibfliggalaaGreatDoor
open Go.RowKit Tr
namespace Tr
def kidB (l:List Ac) (n j:Nat):Bool:=decide ((l[j]?.map (·.pa))=some (n:Int))
theorem kidB_iff {l:List Ac} {n j:Nat}:kidB l n j=true↔j∈kidsV l n:=by
 rw [mem_kids]
 unfold kidB
 cases h:l[j]? with
 | none=>simp
 | some a=>simp
theorem kidB_lt {l:List Ac} {n j:Nat} (h:kidB l n j=true):j<l.length:=by
 obtain⟨a,ha,_⟩:=mem_kids.1 (kidB_iff.1 h)
 exact(List.getElem?_eq_some_iff.1 ha).1
end Tr
end Go.Proofs.YtceoibfliggalaaGreatDoor
namespace Go.Proofs.YtceoibfliggalaaGreatDoor
open Go.RowKit Tr
set_option maxRecDepth 20000 in
theorem nmD_none:NmD (.map []:DataW Unit) []:=fun s=>⟨rfl,fun k h=>(by cases h)⟩
theorem kidB_root:∀i j,kidB [rootAc] i j=false:=by
 intro i j
 unfold kidB
 cases j with
 | zero=>simp [rootAc]
 | succ j=>simp
set_option maxHeartbeats 2000000 in
set_option maxRecDepth 20000 in
theorem pnew_any (w:World):Calls Tryz.prog 42 #[] w fun e w'=>∃t v m kv ks,e=.returned (.pointer (some ⟨t,0,none⟩))∧PT w' t v m kv ks [rootAc] (kidB [rootAc])∧(∀j,PK t v m kv ks j→w.heap.size≤j)∧Below w.heap.size w w':=by
 have hmm:= @run_makeMap Tryz.prog
 obtain⟨w1,hw1⟩:∃w1,(w.alloc (.map #[] 0)).alloc (.cells #[.slice none 0 0,.map (some w.heap.size),.slice none 0 0] 142)=w1:=⟨_,rfl⟩
 have b1:Below w.heap.size w w1:=by rw [← hw1];exact((Below.refl _ w).alloc (Nat.le_refl _) _).alloc (by simp) _
 have p1:PT w1 (w.heap.size+1) (.slice none 0 0) w.heap.size (.slice none 0 0) [] [] (kidB [rootAc]):=by
  rw [← hw1]
  refine⟨?_,World.ownsRow_nil _ _ _ _,⟨.map [],?_,nmD_none⟩,World.ownsRow_nil _ _ _ _,rfl,fun i k h=>(by simp at h),List.nodup_nil,by simp⟩
  ·have:=heap_alloc_new (w.alloc (.map #[] 0)) (.cells #[.slice none 0 0,.map (some w.heap.size),.slice none 0 0] 142)
   rwa [World.size_alloc]at this
  ·exact (World.ownsMap_made w Tryz.prog 9 (plainElem Tryz.prog 3)).alloc _
 have HB:Hid _:=b1
 have HP:Hid _:=p1
 clear b1 p1
 go_enter Tryz.func42,Tryz.ntmps42
 go_wp2_with fail
 refine(root_any w1).mono ?_
 rintro e w2 ⟨rfl,b2⟩
 have hlay:=lay_any (HP.out.below b2) rootAc (by decide) rfl (by decide) (fun j=>kidB_root _ j)
 go_wp2_with fail
 refine hlay.mono ?_
 rintro e w3 ⟨rfl,v',kv',k',p3,c3,n3⟩
 have HP3:Hid _:=p3
 have HC3:Hid _:=c3
 have HN3:Hid _:=n3
 clear p3 c3 n3
 go_wp2
 go_ret
 have hs1:=HB.out.size
 have hs2:=b2.size
 have hlo:∀j,PK (w.heap.size+1) (.slice none 0 0) w.heap.size (.slice none 0 0) [] j→w.heap.size≤j:=by
  rintro j (rfl | h | rfl | h | h)
  ·omega
  ·simp [Value.ownBlock]at h
  ·omega
  ·simp [Value.ownBlock]at h
  ·cases h
 refine⟨_,_,_,_,_,rfl,HP3.out,fun j hj=>?_,?_⟩
 ·rcases HN3.out j hj with h | h
  ·exact hlo j h
  ·omega
 ·exact HC3.out.below (HB.out.trans (b2.mono HB.out.size)) (Nat.le_trans hs1 hs2) hlo
end Go.Proofs.YtceoibfliggalaaGreatDoor
namespace Go.Proofs.YtceoibfliggalaaGreatDoor
open Go.RowKit Tr
def Ext (S:Nat→Prop) (n j:Nat):Prop:=S j∨n≤j
section
variable {S:Nat→Prop} {w:World} {t:Nat} {l:List Ac}
set_option maxRecDepth 20000 in
theorem tnew (w:World):Calls Tryz.prog 42 #[] w fun e w'=>∃t,e=.returned (.pointer (some ⟨t,0,none⟩))∧Tree (fun j=>w.heap.size≤j) w' t [rootAc] (kidB [rootAc])∧Below w.heap.size w w':=
 (pnew_any w).mono fun _ _ ⟨t,v,m,kv,ks,he,h1,h2,h3⟩=>⟨t,he,⟨v,m,kv,ks,h1,h2⟩,h3⟩
end
theorem Tree.ext {B:Nat} {n:Nat} {W:World} {t:Nat} {l:List Ac} {K:Nat→Nat→Bool} (h:Tree (Ext (fun j=>B≤j) n) W t l K) (hB:B≤n):Tree (fun j=>B≤j) W t l K:=
 h.mono (fun j _ hj=>by rcases hj with hj | hj;exact hj;exact Nat.le_trans hB hj)
theorem Chg.lo {B:Nat} {w w':World} (h:Chg (fun j=>B≤j) w w') (hB:B≤w.heap.size):Below B w w':=h.below (Below.refl _ w) hB (fun _ hi=>hi)
end Go.Proofs.YtceoibfliggalaaGreatDoor
namespace Go.Proofs.YtceoibfliggalaaGreatDoor
open Go.RowKit Tr
section
variable {S:Nat→Prop} {w:World} {t:Nat} {l:List Ac} {K:Nat→Nat→Bool}
set_option maxRecDepth 20000 in
theorem tlay (h:Tree S w t l K) (a:Ac) (hs:a.nm.size≤maxLen) (hf:findV l a.nm=none) (hl:l.length<64) (hK:∀j,K l.length j=false):
  Calls Tryz.prog 99 #[.pointer (some ⟨t,0,none⟩),acV a] w fun e w'=>e=.returned (.int .i64 l.length)∧Tree (Ext S w.heap.size) w' t (l++ [plainAc a]) K∧Chg S w w':=by
 obtain⟨v,m,kv,ks,h1,h2⟩:=h
 refine(lay_any h1 a hs hf hl hK).mono ?_
 rintro e w' ⟨rfl,v',kv',k',g1,g2,g3⟩
 refine⟨rfl,⟨v',m,kv',ks++ [k'],g1,fun j hj=>?_⟩,g2.mono (fun i _ hi=>h2 i hi)⟩
 rcases g3 j hj with h | h
 ·exact .inl (h2 j h)
 ·exact .inr h
set_option maxRecDepth 20000 in
theorem trefuses (h:Tree S w t l K) {s:ByteArray} (hs:s.size≤maxLen) (kn:Bool) (sh:Int):
  Calls Tryz.prog 136 #[.pointer (some ⟨t,0,none⟩),.string s,.bool kn,.int .i64 sh] w fun e w'=>e=.returned (.int .i64 (refV l s kn sh))∧w=w':=by
 obtain⟨v,m,kv,ks,h1,h2⟩:=h
 exact refuses_any h1 hs kn sh
set_option maxRecDepth 20000 in
theorem thang (h:Tree S w t l K) {n p:Nat} (hl:l.length≤64) (hn:n<l.length) (hp:p<l.length) (h64:∀j,K p j=true→j<64):
  Calls Tryz.prog 138 #[.pointer (some ⟨t,0,none⟩),.int .i64 n,.int .i64 p] w fun e w'=>e=.returned (.tuple #[])∧Tree S w' t (mvV l n p) (hangK K n p)∧Chg S w w':=by
 obtain⟨v,m,kv,ks,h1,h2⟩:=h
 refine(hang_any h1 hl hn hp h64).mono ?_
 rintro e w' ⟨rfl,g1,g2⟩
 exact⟨rfl,⟨v,m,kv,ks,g1,h2⟩,g2.mono (fun i _ hi=>h2 i hi)⟩
end
namespace Tr
theorem plain_find (l:List Ac) (s:ByteArray):findV (l.map plainAc) s=findV l s:=by
 induction l with
 | nil=>rfl
 | cons a l ih=>
  show (if (plainAc a).nm=s then some 0 else(findV (l.map plainAc) s).map (· +1))=_
  rw [ih]
  rfl
theorem find_take {l:List Ac} {i:Nat} {a:Ac} (h:l[i]?=some a):findV l a.nm≠some i↔(findV (l.take i) a.nm).isSome=true:=by
 induction l generalizing i with
 | nil=>simp at h
 | cons b l ih=>
  cases i with
  | zero=>
   simp at h
   subst h
   simp [findV]
  | succ i=>
   have h':l[i]?=some a:=by simpa using h
   have:=ih h'
   simp only [List.take_succ_cons,findV]
   by_cases e:b.nm=a.nm
   ·simp [e]
   ·rw [if_neg e,if_neg e]
    cases hf:findV l a.nm with
    | none=>
     rw [hf]at this
     simp at this
     simp [this]
    | some k=>
     rw [hf]at this
     simp at this
     simp [this]
theorem rowE_ref {l:List Ac} {i:Nat} {a:Ac} (h:l[i]?=some a):rowE l i a=refV ((l.take i).map plainAc) a.nm (decide (0≤a.pa)&&decide (a.pa<l.length)) a.sh:=by
 unfold rowE refV
 rw [plain_find]
 have h1:=find_take h
 by_cases c1:okName a.nm=false
 ·simp [c1]
 ·rw [if_neg c1,if_neg c1]
  by_cases c2:findV l a.nm≠some i
  ·rw [if_pos c2,if_pos (h1.1 c2)]
  ·rw [if_neg c2,if_neg (fun h=>c2 (h1.2 h))]
   by_cases c3:a.pa<0∨(l.length:Int)≤a.pa
   ·rw [if_pos c3,if_pos]
    simp
    omega
   ·have hk:(decide (0≤a.pa)&&decide (a.pa<(l.length:Int)))=true:=by
     simp
     omega
    rw [if_neg c3,hk]
    simp
theorem rowE_no {l:List Ac} {i:Nat} {a:Ac} (h:l[i]?=some a) (he:rowE l i a=0):okName a.nm=true∧findV ((l.take i).map plainAc) a.nm=none∧0≤a.pa∧a.pa<(l.length:Int):=by
 unfold rowE at he
 by_cases c1:okName a.nm=false
 ·simp [c1]at he
 ·rw [if_neg c1]at he
  by_cases c2:findV l a.nm≠some i
  ·rw [if_pos c2]at he
   simp at he
  ·rw [if_neg c2]at he
   by_cases c3:a.pa<0∨(l.length:Int)≤a.pa
   ·rw [if_pos c3]at he
    simp at he
   ·refine ⟨by simpa using c1,?_,by omega,by omega⟩
    rw [plain_find]
    cases hf:findV (l.take i) a.nm with
    | none=>rfl
    | some k=>exact absurd ((find_take h).2 (by rw [hf];rfl)) c2
theorem rows_at {l:List Ac} {i:Nat} {a:Ac} (h:l[i]?=some a) (f:Nat):rowsE l (f+1) i=if rowE l i a=0 then rowsE l f (i+1)else rowE l i a:=by
 simp only [rowsE,h]
theorem rows_end {l:List Ac} {i:Nat} (h:l.length≤i):∀f,rowsE l f i=0
 | 0=>rfl
 | f+1=>by simp only [rowsE,List.getElem?_eq_none h]
theorem steps_depth {l:List Ac} (h:∀k,k<l.length→up l k<l.length) {n:Nat} (hn:n<l.length):depN l l.length n=depthV l n:=by
 cases hd:depthV l n with
 | some d=>
  obtain⟨h1,_⟩:=depN_dep hd
  exact dep_depN h1 (dep_lt h hn h1)
 | none=>
  cases hd2:depN l l.length n with
  | none=>rfl
  | some d=>
   obtain⟨h1,h2⟩:=depN_dep hd2
   have:depthV l n=some d:=dep_depN h1 (by omega)
   rw [hd]at this
   cases this
theorem deep_at {l:List Ac} {i:Nat} (h:i<l.length) (f:Nat):deepE l (f+1) i=match depthV l i with
  | none=>67
  | some d=>if 4<d then 64 else deepE l f (i+1):=by
 have:¬l.length≤i:=by omega
 show (if l.length≤i then(0:Int)else _)=_
 rw [if_neg this]
 cases depthV l i<;>rfl
theorem deep_end {l:List Ac} {i:Nat} (h:l.length≤i):∀f,deepE l f i=0
 | 0=>rfl
 | f+1=>by simp only [deepE,if_pos h]
set_option maxRecDepth 20000 in
theorem deep_zero {l:List Ac} (h:0<l.length) (f:Nat):deepE l (f+1) 0=deepE l f 1:=by
 rw [deep_at h]
 have:depthV l 0=some 0:=by unfold depthV depN;simp
 rw [this]
 simp
set_option maxRecDepth 20000 in
theorem deep_more {l:List Ac}:∀ {f i},l.length≤f+i→deepE l (f+1) i=deepE l f i
 | 0,i,h=>by rw [deep_end (by omega),deep_end (by omega)]
 | f+1,i,h=>by
  by_cases hi:i<l.length
  ·rw [deep_at hi,deep_at hi,deep_more (f:=f) (i:=i+1) (by omega)]
  ·rw [deep_end (by omega),deep_end (by omega)]
end Tr
set_option maxHeartbeats 2000000 in
set_option maxRecDepth 20000 in
theorem misplaced_any {w:World} {ao:Option Addr} {l:List Ac} {c:Nat} (hA:AcsAt w ao l) (hn:l.length*48≤140737488355328) (hp:PaOk l) (hu:∀k,k<l.length→up l k<l.length):
  Calls Tryz.prog 137 #[.slice ao l.length c] w fun e w'=>e=.returned (.int .i64 (deepE l l.length 0))∧w=w':=by
 obtain⟨q,hq⟩:∃q,l.length=q:=⟨_,rfl⟩
 have hst:∀n,n<q→Calls Tryz.prog 167 #[.slice ao q c,.int .i64 n] w fun e w'=>e=.returned (.tuple #[.int .i64 (stepsI (depthV l n)).1,.bool (stepsI (depthV l n)).2])∧w=w':=fun n hnq=>by
  have:=steps_any (c:=c) hA hn hp (n:=n) (by omega)
  rw [steps_depth hu (by omega),hq]at this
  exact this
 have HST:Hid _:=hst
 have HQ:Hid (l.length=q):=hq
 rw [hq]at hn ⊢
 clear hA hp hu hst
 go_enter Tryz.func137,Tryz.ntmps137
 go_wp2
 go_loopg [8] q (fun gk p wr=>∃j:Nat,j+gk=q∧p=.int .i64 j∧w=wr∧deepE l q 0=deepE l gk j)
 case atStart=>exact⟨0,by omega,rfl,rfl,rfl⟩
 case round=>
  obtain⟨j,hj,rfl,rfl,hinv⟩:=hrel
  by_cases hlt:j<q
  ·have hlt':(j:Int)<q:=by omega
   obtain⟨f,rfl⟩:∃f,gk=f+1:=⟨gk - 1,by omega⟩
   rw [deep_at (by rw [HQ.out];exact hlt)]at hinv
   have hs:=HST.out j hlt
   clear hq
   cases hd:depthV l j with
   | none=>
    rw [hd]at hinv hs
    simp only [stepsI]at hs
    have HI:Hid (deepE l q 0=67):=hinv
    clear hinv
    go_wp2_with fail
    refine hs.mono ?_
    rintro e wx ⟨rfl,rfl⟩
    go_wp2
    go_ret
    exact⟨by rw [HI.out];rfl,rfl⟩
   | some d=>
    rw [hd]at hinv hs
    simp only [stepsI]at hs
    by_cases h4:4<d
    ·have h4':(4:Int)<d:=by omega
     have HI:Hid (deepE l q 0=64):=show deepE l q 0=64 by rw [hinv];simp [h4]
     clear hinv
     go_wp2_with fail
     refine hs.mono ?_
     rintro e wx ⟨rfl,rfl⟩
     go_wp2
     go_ret
     exact⟨by rw [HI.out];rfl,rfl⟩
    ·have h4':¬(4:Int)<d:=by omega
     have HI:Hid (deepE l q 0=deepE l f (j+1)):=show deepE l q 0=deepE l f (j+1) by rw [hinv];simp [h4]
     clear hinv
     go_wp2_with fail
     refine hs.mono ?_
     rintro e wx ⟨rfl,rfl⟩
     go_wp2
     go_roundg f
     case measure=>omega
     case rel=>exact⟨j+1,by omega,rfl,rfl,HI.out⟩
  ·obtain rfl:j=q:=by omega
   have HI:Hid (deepE l j 0=0):=show deepE l j 0=0 by rw [hinv];exact deep_end (by rw [HQ.out];exact Nat.le_refl _) _
   clear hinv
   go_wp2
   go_ret
   exact⟨by rw [HI.out];rfl,rfl⟩
end Go.Proofs.YtceoibfliggalaaGreatDoor
namespace Go.Proofs.YtceoibfliggalaaGreatDoor
open Go.RowKit Tr
def LoadP (w:World) (l:List Ac) (e:Ending) (w':World):Prop:=
 (loadE l=0→∃t,e=.returned (.tuple #[.pointer (some ⟨t,0,none⟩),.int .i64 0])∧Tree (fun j=>w.heap.size≤j) w' t (l.map plainAc) (kidB (l.map plainAc)))∧(loadE l≠0→e=.returned (.tuple #[.pointer none,.int .i64 (loadE l)]))∧Below w.heap.size w w'
theorem LoadP.no {w w':World} {l:List Ac} {k:Int} (h:loadE l=k) (hk:k≠0) (b:Below w.heap.size w w'):LoadP w l (.returned (.tuple #[.pointer none,.int .i64 k])) w':=
 ⟨fun e=>absurd (h.symm.trans e) hk,fun _=>by rw [h],b⟩
theorem kidB_none:kidB [rootAc]=fun _ _=>false:=by
 funext i j
 exact kidB_root i j
namespace Tr
theorem take_plain {l:List Ac} {i:Nat} {a:Ac} (h:l[i]?=some a):(l.take (i+1)).map plainAc=(l.take i).map plainAc++ [plainAc a]:=by
 rw [List.take_add_one,h]
 simp
def kidN (l:List Ac) (n:Nat):Nat→Nat→Bool:=fun i j=>decide (0<j∧j<n)&&kidB l i j
theorem kidN_start (l:List Ac):kidN l 1=fun _ _=>false:=by
 funext i j
 unfold kidN
 have:¬(0<j∧j<1):=by omega
 rw [decide_eq_false this]
 rfl
theorem kidN_step {l:List Ac} {n p:Nat} {a:Ac} (hn:0<n) (ha:l[n]?=some a) (hp:a.pa=p):hangK (kidN l n) n p=kidN l (n+1):=by
 funext i j
 unfold hangK kidN
 by_cases e:j=n
 ·subst e
  have h1:decide (0<j∧j<j)=false:=by simp
  have h2:decide (0<j∧j<j+1)=true:=by simp [hn]
  rw [h1,h2]
  unfold kidB
  rw [ha]
  simp only [Bool.false_and,beq_self_eq_true,Bool.or_true,Option.map_some,hp,Bool.true_and]
  by_cases h3:i=p
  ·simp [h3]
  ·simp [h3]
   omega
 ·have h1:(j==n)=false:=by simp [e]
  have h2:decide (0<j∧j<n+1)=decide (0<j∧j<n):=by
   congr 1
   simp only [eq_iff_iff]
   omega
  rw [h1,h2]
  split
  ·rename_i h3
   rw [h3]
   simp
  ·rfl
set_option maxRecDepth 20000 in
theorem kidN_end {l:List Ac} {n:Nat} (hn:l.length≤n) (h0:∀a,l[0]?=some a→a.pa<0):kidN l n=kidB l:=by
 funext i j
 unfold kidN
 cases hk:kidB l i j with
 | false=>simp
 | true=>
  have hj:=kidB_lt hk
  have:0<j:=by
   by_cases e:j=0
   ·subst e
    obtain⟨a,ha,hp⟩:=mem_kids.1 (kidB_iff.1 hk)
    have:=h0 a ha
    omega
   ·omega
  simp [this]
  omega
end Tr
set_option maxHeartbeats 8000000 in
set_option maxRecDepth 20000 in
theorem pload_any {w:World} {ao:Option Addr} {l:List Ac} {c:Nat} (hA:AcsAt w ao l) (hs:∀a∈l,a.nm.size≤maxLen) (hn:l.length*48≤281474976710656) (hc:l.length≤c):
  Calls Tryz.prog 90 #[.slice ao l.length c] w (LoadP w l):=by
 cases hl0:l[0]? with
 | none=>
  have hl:l= []:=by
   cases l with
   | nil=>rfl
   | cons a l=>simp at hl0
  subst hl
  simp only [List.length_nil]
  have HE:Hid (loadE []=66):=show loadE []=66 from rfl
  clear hA hs hl0
  go_enter Tryz.func90,Tryz.ntmps90
  go_wp2
  go_ret2
  exact LoadP.no HE.out (by decide) (Below.refl _ _)
 | some a0=>
  obtain⟨g,o,hg,hcl⟩:=hA
  have hpos:0<l.length:=(List.getElem?_eq_some_iff.1 hl0).1
  obtain rfl:=hg hpos
  obtain⟨Q,hQ⟩:∃Q,l.length=Q:=⟨_,rfl⟩
  have HQ:Hid (l.length=Q):=hQ
  rw [hQ]at hpos hn hc ⊢
  have hz:((Q:Int)==0)=false:=by simp;omega
  obtain⟨d0,d1,d2,d3,d4⟩:=hcl 0 a0 hl0
  simp only [Nat.zero_mul,Nat.add_zero]at d0 d1 d2 d3 d4
  have hir:=isRoot_any a0 w
  simp only [acV]at hir
  cases hr:isRoot a0 with
  | false=>
   rw [hr]at hir
   have HE:Hid (loadE l=66):=show loadE l=66 by unfold loadE;rw [hl0];simp [hr]
   clear hcl hg hl0 hr hs hQ
   go_enter Tryz.func90,Tryz.ntmps90
   go_wp2_with fail
   refine hir.mono ?_
   rintro e w1 ⟨rfl,b1⟩
   go_wp2
   go_ret2
   exact LoadP.no HE.out (by decide) b1
  | true=>
   rw [hr]at hir
   by_cases h64:64<Q
   ·have h64':(64:Int)<Q:=by omega
    have HE:Hid (loadE l=65):=show loadE l=65 by unfold loadE;rw [hl0];simp [hr,HQ.out,h64]
    clear hcl hg hl0 hr hs h64 hQ
    go_enter Tryz.func90,Tryz.ntmps90
    go_wp2_with fail
    refine hir.mono ?_
    rintro e w1 ⟨rfl,b1⟩
    go_wp2
    go_ret2
    exact LoadP.no HE.out (by decide) b1
   ·have h64':¬(64:Int)<Q:=by omega
    have hE:loadE l=if rowsE l Q 1≠0 then rowsE l Q 1 else deepE l Q 1:=by unfold loadE;rw [hl0,HQ.out];simp [hr,h64]
    have hra:plainAc a0=rootAc:=by
     simp [isRoot]at hr
     obtain⟨⟨⟨r1,r2⟩,r3⟩,r4⟩:=hr
     unfold plainAc rootAc
     rw [r1,r2,r3,r4]
    have HE:Hid _:=hE
    have HCL:Hid _:=hcl
    clear hE hcl hg hQ
    go_enter Tryz.func90,Tryz.ntmps90
    go_wp2_with fail
    refine hir.mono ?_
    rintro e w1 ⟨rfl,b1⟩
    have hnw:=tnew w1
    go_wp2_with fail
    refine hnw.mono ?_
    rintro e w2 ⟨t,rfl,t2,b2⟩
    have b12:=b1.trans (b2.mono b1.size)
    rw [kidB_none]at t2
    have T2:Hid (Tree (fun j=>w.heap.size≤j) w2 t [rootAc] (fun _ _=>false)):=t2.mono (fun j _ hj=>Nat.le_trans b1.size hj)
    clear t2 hnw hir
    go_upto_region 6 with fail
    obtain⟨q,hq⟩:∃q,Q=q+1:=⟨Q - 1,by omega⟩
    have HQ1:Hid (Q=q+1):=hq
    go_cut [26,27,28] (fun p26 p27 p28 wc=>∃oo cc,p26=.slice (some ⟨g,oo,none⟩) q cc∧p27=.int .i64 (q:Int)∧p28=.int .i64 0∧w2=wc∧(0<q→oo=o+5))
    case first=>
     have hq1:Q - 1=q:=by omega
     clear hq
     by_cases hc1:c=1
     ·subst hc1
      obtain rfl:Q=1:=by omega
      obtain rfl:q=0:=by omega
      go_wp2
      go_meet
      exact⟨_,_,rfl,rfl,rfl,rfl,fun h=>by omega⟩
     ·have hc2:¬c≤1:=by omega
      go_wp2
      all_goals go_meet
      all_goals exact⟨_,_,rfl,rfl,rfl,rfl,fun _=>rfl⟩
    case rest=>
     obtain⟨oo,cc,rfl,rfl,rfl,rfl,hoo⟩:=hcut
     have HOO:Hid _:=hoo
     have hQ64:Q≤64:=by omega
     have hq63:q<64:=by omega
     clear hoo hq h64
     go_wp2_with fail
     go_loopg [28] q (fun gk p wr=>∃j:Nat,j+gk=q∧p=.int .i64 j∧Tree (fun j=>w.heap.size≤j) wr t ((l.take (j+1)).map plainAc) (fun _ _=>false)∧Below w.heap.size w wr∧rowsE l Q 1=rowsE l (gk+1) (j+1)∧∀i a,0<i→i≤j→l[i]?=some a→rowE l i a=0)
     case atStart=>
      refine⟨0,by omega,rfl,?_,b12,by rw [HQ1.out],fun i a h1 h2=>by omega⟩
      have:(l.take (0+1)).map plainAc= [rootAc]:=by rw [take_plain hl0,hra];rfl
      rw [this]
      exact T2.out
     case round=>
      obtain⟨j,hj,rfl,tr,hb,hro,hok⟩:=hrel
      by_cases hlt:j<q
      ·have hlt':(j:Int)<q:=by omega
       obtain⟨a,ha⟩:∃a,l[j+1]?=some a:=⟨_,List.getElem?_eq_getElem (by rw [HQ.out,HQ1.out];omega)⟩
       have hac:=HCL.out (j+1) a ha
       rw [show o+(j+1)*5=oo+j*5 by rw [HOO.out (by omega)];omega]at hac
       obtain⟨x0,x1,x2,x3,x4⟩:AcAt wr g (oo+j*5) a:=by
        have k:∀ {x:Addr} {u:Value},w.cell? x=some u→wr.cell? x=some u:=fun hx=>(hb.cell (World.block_lt_of_cell? w _ hx)).trans hx
        exact⟨k hac.nm,k hac.pa,k hac.sh,k hac.cl,k hac.us⟩
       rw [rows_at ha]at hro
       obtain⟨wb,hwb⟩:∃wb,wr.alloc (.cells #[.string a.nm,.int .i64 a.pa,.int .i64 a.sh,.bool a.cl,.int .u64 a.us] 52)=wb:=⟨_,rfl⟩
       have bb:Below wr.heap.size wr wb:=by rw [← hwb];exact(Below.refl _ wr).alloc (Nat.le_refl _) _
       have yb:wb.heap[wr.heap.size]?=some (.cells #[.string a.nm,.int .i64 a.pa,.int .i64 a.sh,.bool a.cl,.int .u64 a.us] 52 (0,0)):=by rw [← hwb];exact heap_alloc_new wr _
       have tb:=tr.below bb
       have bw:=hb.trans (bb.mono hb.size)
       have hnm:=hs a (List.mem_of_getElem? ha)
       have hrf:=trefuses tb hnm (decide (0≤a.pa)&&decide (a.pa<(Q:Int))) a.sh
       have hre:=rowE_ref ha
       rw [HQ.out]at hre
       rw [← hre]at hrf
       have TB:Hid (Tree (fun j=>w.heap.size≤j) wb t ((l.take (j+1)).map plainAc) (fun _ _=>false)):=tb
       have BW:Hid _:=bw
       have HWB:Hid _:=hwb
       have HRO:Hid _:=hro
       have HOK:Hid _:=hok
       obtain⟨⟨y0,y1,y2,y3,y4⟩,_⟩:=cells5 yb
       clear tr hb hac hro hok bb tb bw hwb hre hl0
       go_upto_region 9 with fail
       rw [HWB.out]
       go_cut [7] (fun v wc=>v=.bool (decide (0≤a.pa)&&decide (a.pa<(Q:Int)))∧wb=wc)
       case first=>
        by_cases p0:0≤a.pa
        ·by_cases p1:a.pa<(Q:Int)
         ·go_wp2
          go_meet
          exact⟨by simp [p0,p1],rfl⟩
         ·go_wp2
          go_meet
          exact⟨by simp;omega,rfl⟩
        ·go_wp2
         go_meet
         exact⟨by simp;omega,rfl⟩
       case rest=>
        obtain⟨rfl,rfl⟩:=hcut
        by_cases he:rowE l (j+1) a=0
        ·obtain ⟨k1,k2,k3,k4⟩:=rowE_no ha he
         have hly:=tlay TB.out a hnm k2 (by rw [List.length_map,List.length_take];omega) (fun _=>rfl)
         rw [← take_plain ha]at hly
         simp only [acV]at hly
         rw [he]at hrf
         have HR2:Hid (rowsE l Q 1=rowsE l gk (j+2)):=show rowsE l Q 1=rowsE l gk (j+2) by rw [HRO.out];simp [he]
         have HO2:Hid (∀i a,0<i→i≤j+1→l[i]?=some a→rowE l i a=0):=fun i b h1 h2 hb=>by
          by_cases e:i=j+1
          ·subst e
           rw [ha]at hb
           cases hb
           exact he
          ·exact HOK.out i b h1 (by omega) hb
         clear HRO HOK k1 k2 k3 k4
         go_wp2_with fail
         refine hrf.mono ?_
         rintro e wx ⟨rfl,rfl⟩
         go_wp2_with fail
         refine hly.mono ?_
         rintro e wy ⟨rfl,ty,cy⟩
         have TY:Hid (Tree (fun j=>w.heap.size≤j) wy t ((l.take (j+1+1)).map plainAc) (fun _ _=>false)):=Tree.ext ty BW.out.size
         have BY:Hid _:=BW.out.trans (cy.lo BW.out.size)
         clear ty cy hrf hly
         go_wp2
         go_roundg (q - (j+1))
         case measure=>omega
         case rel=>
          refine⟨j+1,by omega,rfl,TY.out,BY.out,?_,HO2.out⟩
          rw [HR2.out,show q - (j+1)+1=gk by omega]
        ·have HEE:Hid (loadE l=rowE l (j+1) a):=show loadE l=rowE l (j+1) a by
          rw [HE.out,HRO.out]
          simp [he]
         obtain⟨er,her⟩:∃er,rowE l (j+1) a=er:=⟨_,rfl⟩
         rw [her]at hrf he HEE
         have he':(er==0)=false:=by simp [he]
         clear HRO HOK her HE
         go_wp2_with fail
         refine hrf.mono ?_
         rintro e wx ⟨rfl,rfl⟩
         go_wp2
         go_ret2
         exact LoadP.no HEE.out he BW.out
      ·obtain rfl:j=q:=by omega
       rw [List.take_of_length_le (by rw [HQ.out,HQ1.out];exact Nat.le_refl _)]at tr
       have hr0:rowsE l Q 1=0:=by
        rw [hro]
        exact rows_end (by rw [HQ.out,HQ1.out];exact Nat.le_refl _) _
       have hpao:PaOk l:=fun k a ha hk=>by
        have:=rowE_no ha (hok k a hk (by have:=(List.getElem?_eq_some_iff.1 ha).1;rw [HQ.out,HQ1.out]at this;omega) ha)
        exact⟨this.2.2.1,this.2.2.2⟩
       have hup:∀k,k<l.length→up l k<l.length:=fun k hk=>by
        obtain⟨a,ha⟩:∃a,l[k]?=some a:=⟨_,List.getElem?_eq_getElem hk⟩
        rw [up_of ha]
        by_cases h0:0<k
        ·have:=hpao k a ha h0
         omega
        ·obtain rfl:k=0:=by omega
         rw [hl0]at ha
         cases ha
         have:a0.pa= -1:=by
          simp [isRoot]at hr
          exact hr.1.1.2
         rw [this]
         exact hk
       have hAr:AcsAt wr (some ⟨g,o,none⟩) l:=⟨g,o,fun _=>rfl,fun k a ha=>by
        have hac:=HCL.out k a ha
        have kk:∀ {x:Addr} {u:Value},w.cell? x=some u→wr.cell? x=some u:=fun hx=>(hb.cell (World.block_lt_of_cell? w _ hx)).trans hx
        exact⟨kk hac.nm,kk hac.pa,kk hac.sh,kk hac.cl,kk hac.us⟩⟩
       have hmp:=misplaced_any (c:=c) hAr (by rw [HQ.out];omega) hpao hup
       rw [HQ.out]at hmp
       have hdd:deepE l Q 0=deepE l Q 1:=by
        rw [HQ1.out,deep_zero (by rw [HQ.out];exact hpos),deep_more (by rw [HQ.out,HQ1.out];omega)]
       rw [hdd]at hmp
       have HEE:Hid (loadE l=deepE l Q 1):=show loadE l=deepE l Q 1 by rw [HE.out];simp [hr0]
       have TR:Hid (Tree (fun j=>w.heap.size≤j) wr t (l.map plainAc) (fun _ _=>false)):=tr
       have HPA:Hid _:=hpao
       have HB:Hid _:=hb
       clear tr hb hro hok hr0 hup hAr hdd HE hpao
       by_cases he:deepE l Q 1=0
       ·rw [he]at hmp
        have h00:∀a,(l.map plainAc)[0]?=some a→a.pa<0:=fun a ha=>by
         have hz0:(l.map plainAc)[0]?=some (plainAc a0):=by simp [hl0]
         rw [hz0,hra]at ha
         cases ha
         decide
        have H00:Hid _:=h00
        have HL0:Hid (loadE l=0):=HEE.out.trans he
        clear h00 HEE hl0
        go_wp2_with fail
        refine hmp.mono ?_
        rintro e wx ⟨rfl,rfl⟩
        go_wp2_with fail
        go_loopg [10] j (fun gk p wv=>∃n:Nat,0<n∧n+gk=Q∧p=.int .i64 n∧Tree (fun j=>w.heap.size≤j) wv t (l.map plainAc) (kidN (l.map plainAc) n)∧Below w.heap.size w wv)
        case atStart=>exact⟨1,by omega,by rw [HQ1.out];omega,rfl,by rw [kidN_start];exact TR.out,HB.out⟩
        case round=>
         obtain⟨n,hn0,hng,rfl,tv,hbv⟩:=hrel
         by_cases hnl:n<Q
         ·have hnl':(n:Int)<Q:=by omega
          obtain⟨a,ha⟩:∃a,l[n]?=some a:=⟨_,List.getElem?_eq_getElem (by rw [HQ.out];exact hnl)⟩
          obtain⟨p0,p1⟩:=HPA.out n a ha hn0
          rw [HQ.out]at p1
          obtain⟨pq,hpq⟩:∃pq:Nat,a.pa=pq:=⟨a.pa.toNat,by omega⟩
          have ha':(l.map plainAc)[n]?=some (plainAc a):=by simp [ha]
          have hll:(l.map plainAc).length=Q:=by rw [List.length_map];exact HQ.out
          have hhg:=thang tv (n:=n) (p:=pq) (by rw [hll];exact hQ64) (by rw [hll];exact hnl) (by rw [hll];omega) (fun j hj=>by
           unfold kidN at hj
           simp at hj
           omega)
          have hms:mvV (l.map plainAc) n (pq:Int)=l.map plainAc:=by rw [← hpq];exact mv_self (a:=plainAc a) ha'
          rw [hms,kidN_step hn0 ha' hpq]at hhg
          have x1:wr.cell? ⟨g,o+n*5+1,none⟩=some (.int .i64 (pq:Int)):=by
           have hx:=(HCL.out n a ha).pa
           rw [hpq]at hx
           exact(hbv.cell (World.block_lt_of_cell? w _ hx)).trans hx
          have BV:Hid _:=hbv
          clear tv hbv ha ha' hll hms hpq p0 p1
          go_wp2_with fail
          refine hhg.mono ?_
          rintro e wz ⟨rfl,tz,cz⟩
          have TZ:Hid (Tree (fun j=>w.heap.size≤j) wz t (l.map plainAc) (kidN (l.map plainAc) (n+1))):=tz
          have BZ:Hid _:=BV.out.trans (cz.lo BV.out.size)
          clear tz cz hhg
          go_wp2
          go_roundg (Q - (n+1))
          case measure=>omega
          case rel=>exact⟨n+1,by omega,by omega,rfl,TZ.out,BZ.out⟩
         ·have hnl':¬(n:Int)<Q:=by omega
          have TF:Hid (Tree (fun j=>w.heap.size≤j) wr t (l.map plainAc) (kidB (l.map plainAc))):=show Tree (fun j=>w.heap.size≤j) wr t (l.map plainAc) (kidB (l.map plainAc)) by
           rw [← kidN_end (l:=l.map plainAc) (n:=n) (by rw [List.length_map,HQ.out];omega) H00.out]
           exact tv
          clear tv
          go_wp2
          go_ret2
          exact⟨fun _=>⟨t,rfl,TF.out⟩,fun h=>absurd HL0.out h,hbv⟩
       ·obtain ⟨er,her⟩:∃er,deepE l Q 1=er:=⟨_,rfl⟩
        rw [her]at hmp he HEE
        have he':(er==0)=false:=by simp [he]
        clear her hl0
        go_wp2_with fail
        refine hmp.mono ?_
        rintro e wx ⟨rfl,rfl⟩
        go_wp2
        go_ret2
        exact LoadP.no HEE.out he HB.out
end Go.Proofs.YtceoibfliggalaaGreatDoor

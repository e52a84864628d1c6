import Derived.Test.YtdhifkbbjlhcaaaGreatDoorKz5
import Derived.Laws.CopyOwn
import Derived.Laws.MakeOwn
set_option maxRecDepth 20000
set_option maxHeartbeats 1000000
set_option linter.defProp false
namespace Go.Proofs.YtdhifkbbjlhcaaaGreatDoor
open Go.Proofs.Tryz
variable {α:Type}
section
def iU {α:Type} (lt:α->α->Bool):List α->List α->List α
 | [],ys=>ys
 | x::xs,[]=>x::xs
 | x::xs,y::ys=>if lt y x=true then y::iU lt (x::xs) ys else x::iU lt xs (y::ys)
termination_by xs ys=>xs.length+ys.length
theorem CJ (lt:α->α->Bool) (ys:List α):iU lt [] ys=ys:=by
 unfold iU;rfl
theorem qh (lt:α->α->Bool) (xs:List α):iU lt xs []=xs:=by
 cases xs<;>(unfold iU;rfl)
theorem vP (lt:α->α->Bool) (x y:α) (xs ys:List α) (h:lt y x=true):iU lt (x::xs) (y::ys)=y::iU lt (x::xs) ys:=by
 rw[iU,aJ h]
theorem xQ (lt:α->α->Bool) (x y:α) (xs ys:List α) (h:lt y x=false):iU lt (x::xs) (y::ys)=x::iU lt xs (y::ys):=by
 grind[iU]
theorem nV (lt:α->α->Bool):∀xs ys:List α,(iU lt xs ys).Perm (xs++ys)
 | [],ys=>by grind[CJ,List.Perm.refl]
 | x::xs,[]=>by rw[qh,vW]
 | x::xs,y::ys=>by
  by_cases h:lt y x=true
  ·rw[vP lt x y xs ys h];exact((nV lt (x::xs) ys).cons y).trans List.perm_middle.symm
  ·rw[xQ lt x y xs ys (by grind)];exact(nV lt xs (y::ys)).cons x
termination_by xs ys=>xs.length+ys.length
theorem Na (lt:α->α->Bool) (xs ys:List α):(iU lt xs ys).length=xs.length+ys.length:=by
 rw[(nV lt xs ys).length_eq,tC]
def sortV {α:Type} (lt:α->α->Bool) (l:List α):List α:=
 if l.length<2 then l else iU lt (sortV lt (l.take (l.length / 2))) (sortV lt (l.drop (l.length / 2)))
termination_by l.length
decreasing_by
 ·simp only[vX];omega
 ·simp only[List.length_drop];omega
def nW (lt:α->α->Bool) {l:List α} (h:l.length<2):sortV lt l=l:=by
 rw[sortV,aJ h]
def CK (lt:α->α->Bool) {l:List α} (h:¬l.length<2):sortV lt l=iU lt (sortV lt (l.take (l.length / 2))) (sortV lt (l.drop (l.length / 2))):=by
 rw[sortV,au h]
def CO (lt:α->α->Bool):∀(n:Nat) (l:List α),l.length<=n->(sortV lt l).Perm l
 | 0,l,h=>by rw[nW lt ak]
 | n+1,l,h=>by
  by_cases h2:l.length<2
  ·rw[nW lt h2]
  ·rw[CK lt h2];have h3:=CO lt n (l.take (l.length / 2)) (by grind);have h4:=CO lt n (l.drop (l.length / 2)) (by grind);have h5:=(nV lt (sortV lt (l.take (l.length / 2))) (sortV lt (l.drop (l.length / 2)))).trans (h3.append h4);simp_all
def A9 (lt:α->α->Bool) (l:List α):(sortV lt l).Perm l:=CO lt l.length l (aC _)
def qM (lt:α->α->Bool) (l:List α):(sortV lt l).length=l.length:=(A9 lt l).length_eq
def ZX {α:Type} (key num:α->Int) (a b:α):Prop:=key a<key b\/(key a=key b/\num a<num b)
def vQ (key num:α->Int):∀xs ys:List α,xs.Pairwise (ZX key num)->ys.Pairwise (ZX key num)->(∀x∈xs,∀y∈ys,num x<num y)->
  (iU (fun a b=>decide (key a<key b)) xs ys).Pairwise (ZX key num)
 | [],ys,_,h,_=>by grind[CJ]
 | x::xs,[],h,_,_=>by grind[qh]
 | x::xs,y::ys,hx,hy,hn=>by
  have hx':=qH.1 hx;have hy':=qH.1 hy;by_cases h:key y<key x
  ·rw[vP _ x y xs ys (by grind)];refine qH.2 ⟨fun z hz=>?_,vQ key num (x::xs) ys hx hy'.2 (fun a ha b hb=>hn a ha b (ny _ hb))⟩;grind[nV,ZX]
  ·rw[xQ _ x y xs ys (by grind)];refine qH.2 ⟨fun z hz=>?_,vQ key num xs (y::ys) hx'.2 hy (fun a ha b hb=>hn a (ny _ ha) b hb)⟩;grind[nV,ZX]
termination_by xs ys=>xs.length+ys.length
def xR (key num:α->Int):∀(n:Nat) (l:List α),l.length<=n->l.Pairwise (fun a b=>num a<num b)->(sortV (fun a b=>decide (key a<key b)) l).Pairwise (ZX key num)
 | 0,l,h,_=>by
  have h1:l= []:=by grind
  subst h1;rw[nW _ dF];simp_all
 | n+1,l,h,hp=>by
  by_cases h2:l.length<2
  ·rw[nW _ h2]
   match l,h2 with
   | [],_=>simp_all
   | [x],_=>grind
  ·rw[CK _ h2]
   have hs:(l.take (l.length / 2)++l.drop (l.length / 2)).Pairwise (fun a b=>num a<num b):=by simp_all
   have hs':=List.pairwise_append.1 hs
   refine vQ key num _ _ (xR key num n _ (by grind) hs'.1) (xR key num n _ (by grind) hs'.2.1) (fun x hx y hy=>hs'.2.2 x ((A9 _ _).mem_iff.1 hx) y ((A9 _ _).mem_iff.1 hy))
theorem TH (key num:α->Int) {l:List α} (hp:l.Pairwise (fun a b=>num a<num b)):(sortV (fun a b=>decide (key a<key b)) l).Pairwise (ZX key num):=xR key num l.length l (aC _) hp
def Kk (key num:α->Int):∀(l m:List α),l.Perm m->l.Pairwise (ZX key num)->m.Pairwise (ZX key num)->l=m
 | [],m,h,_,_=>(List.nil_perm.1 h).symm
 | x::l,[],h,_,_=>absurd h.length_eq dF
 | x::l,y::m,h,hl,hm=>by
  have hl':=qH.1 hl;have hm':=qH.1 hm;have e:x=y:=by grind[pJ,ZX]
  subst e;rw[Kk key num l m (List.Perm.cons_inv h) hl'.2 hm'.2]
end
section
open Go.RowKit Tr
structure Pr where
 a:Int
 b:Int
def prV (p:Pr):Value:=.agg #[J p.a,J p.b]
def jJ:List Pr->List Value
 | []=> []
 | p::l=>J p.a::J p.b::jJ l
theorem sN:∀l:List Pr,(jJ l).length=l.length*2
 | []=>rfl
 | p::l=>by simp only[jJ,dK,sN l];omega
theorem FU:∀l m:List Pr,jJ (l++m)=jJ l++jJ m
 | [],m=>rfl
 | p::l,m=>by simp only[mP,jJ,FU l m]
theorem Kl:∀(l:List Pr) (k:Nat) (p:Pr),l[k]?=some p->(jJ l)[k*2]?=some (J p.a)/\(jJ l)[k*2+1]?=some (J p.b)
 | [],k,p,h=>by grind
 | q::l,0,p,h=>by grind[jJ]
 | q::l,k+1,p,h=>by
  have h1:=Kl l k p (by grind);grind[jJ]
theorem N7:∀(l:List Pr) (k:Nat) (p:Pr),((jJ l).set (k*2) (J p.a)).set (k*2+1) (J p.b)=jJ (l.set k p)
 | [],k,p=>rfl
 | q::l,0,p=>rfl
 | q::l,k+1,p=>by
  have h1:=N7 l k p;grind[jJ]
def N8:∀(l:List Pr),∀v∈jJ l,v.oneCell'=true
 | [],v,h=>by simp[jJ]at h
 | p::l,v,h=>by
  simp only[jJ,lZ]at h;rcases h with h | h | h
  ·subst h;rfl
  ·subst h;rfl
  ·exact N8 l v h
def zPr:Pr:=⟨0,0⟩
def XD (n:Nat):madeCells #[J 0,J 0] (n*2)=(jJ (List.replicate n zPr)).toArray:=by
 apply Array.ext
 ·simp[madeCells,sN]
 ·intro j h1 h2;have hj:j<n*2:=by grind[madeCells]
  have⟨e0,e1⟩:=Kl (List.replicate n zPr) (j / 2) zPr (by grind);grind[zPr,madeCells]
section
variable {P:Program}
def abq (w:ay) (dT sT ty elem:TypeId) (g o dLen dCap:Nat) (a:Addr) (sLen sCap size:Nat) (cur:Array Value) (t:TypeId) (cs:List Value)
  (hu:P.underlying dT=some (.slice elem)) (hs:(P.info? elem).map (·.size)=some size)
  (hg:w.heap[g]?=some (.cells cur t (0,0))) (hn:cs.length=Nat.min sLen dLen*size)
  (hsrc:∀j v,cs[j]?=some v->w.cell? (a.add j)=some v) (hfit:o+cs.length<=cur.size) (h1:∀v∈cs,v.oneCell'=true):
  (Builtin.copy_ #[dT,sT] ty #[.slice (some ⟨g,o,none⟩) dLen dCap,.slice (some a) sLen sCap]).run P w=
   .ok (goInt (Nat.min sLen dLen:Nat)) (w.setRow g (cur.toList.take o++cs++cur.toList.drop (o+cs.length)).toArray):=by
 have hl:=run_loadCells_list (P:=P) w a cs hsrc;have hst:=run_storeCells_at P g o t cs 0 cur w hg (by simpa using hfit) h1
 cases hq:P.info? elem with
 | none=>grind
 | some i=>
  have hi:i.size=size:=by grind
  simp[Builtin.copy_,rM hu,Builtin.lenOf,Builtin.firstCells,sizeOf,typeInfo,hq,hi,<-hn,hl,hst]
theorem XE (w:ay) (dT sT ty elem:TypeId) (d a:Option Addr) (dLen dCap sLen sCap size:Nat) (hu:P.underlying dT=some (.slice elem)) (hs:(P.info? elem).map (·.size)=some size) (hn:Nat.min sLen dLen=0):
  (Builtin.copy_ #[dT,sT] ty #[.slice d dLen dCap,.slice a sLen sCap]).run P w=.ok (goInt 0) w:=by
 cases hq:P.info? elem with
 | none=>grind
 | some i=>
  have hl:∀(x:Addr),(loadCells x 0).run P w=.ok #[] w:=fun x=>by simpa using run_loadCells_list (P:=P) w x [] dF
  cases d<;>cases a<;>simp[Builtin.copy_,rM hu,Builtin.lenOf,Builtin.firstCells,sizeOf,typeInfo,hq,hn,storeCells,hl]
end
def set_mid (P out G R:List α) (g v:α):(P++(out++(g::G++R))).set (P.length+out.length) v=P++(out++(v::G++R)):=by
 grind
def Km {h:Nat} (hh:h<=140737488355328):wrap64 (h:Int)=(h:Int):=by unfold wrap64;omega
section
variable {P:Program} (w:ay)
def Qi (d:Nat) (t:TypeId) (ps rs:Array TypeId) (v:Bool) (f:Fn) (x y:Array Value) (h:P.underlying t=some (.func ps rs v)):(Op.equalIn (d+1) t (.func f x y) .nilFunc).run P w=.ok false w:=by
 simp[Op.equalIn,rM h]
def TI (t:TypeId) (ps rs:Array TypeId) (v:Bool) (f:Fn) (x y:Array Value) (h:P.underlying t=some (.func ps rs v)):(binOp .neq t (.func f x y) .nilFunc).run P w=.ok (.bool true) w:=by
 have h1:(Op.equal t (.func f x y) .nilFunc).run P w=.ok false w:=Qi w 9999 t ps rs v f x y h;simp only[binOp];simp[h1]
end
structure Clo {α:Type} (enc:α->Value) (k:Nat) (caps:List Value) (lt:α->α->Bool) (I:ay->Prop) (D:Nat->Prop):Prop where
 call:∀x p q,I x->Calls prog k ([enc p,enc q]++caps).toArray x fun e x'=>e=.returned (.bool (lt p q))/\I x'/\aH D x x'
 keep:∀x x' (K:Nat->Prop),I x->aH K x x'->(∀j,D j->¬K j)->I x'
 low:∀x,I x->∀j,D j->j<x.heap.size
end
end Go.Proofs.YtdhifkbbjlhcaaaGreatDoor

/-
  TEXTS: RwM, AuM.
-/
import Derived.Test.YtceoibfliggalaaGreatDoorKr2
import Derived.RowKit
import Derived.Test.YtceoibfliggalaaGreatDoorKr1
namespace Go.Proofs.YtceoibfliggalaaGreatDoor
open Go.RowKit Wd
namespace Lg
structure Jb where
 ac:Int
 nd:Int
 lm:Int
 sb:Int
 st:Int
 sr:Int
 en:Int
 sa:Option Addr
 sl:Nat
 sc:Nat
def ranZ (now:Int) (j:Jb):Int:=if j.st=3∨j.st=4∨j.st=5 then j.en - j.sr else if j.st=2 then now - j.sr else 0
def oneZ (acc:List Int) (now:Int) (j:Jb):Int:=if j.ac∈acc then j.nd*ranZ now j else 0
def rawZ (acc:List Int) (now:Int):List Jb→Int
 | []=>0
 | j::js=>oneZ acc now j+rawZ acc now js
def Cgr (x y:Int):Prop:=∃k,x=y+18446744073709551616*k
theorem Cgr.trans {x y z:Int} (h:Cgr x y) (g:Cgr y z):Cgr x z:=by obtain⟨k,h⟩:=h;obtain⟨m,g⟩:=g;exact⟨k+m,by omega⟩
theorem Cgr.add {x y u v:Int} (h:Cgr x y) (g:Cgr u v):Cgr (x+u) (y+v):=by obtain⟨k,h⟩:=h;obtain⟨m,g⟩:=g;exact⟨k+m,by omega⟩
theorem Cgr.mul {x y:Int} (n:Int) (h:Cgr x y):Cgr (n*x) (n*y):=by
 obtain⟨k,rfl⟩:=h
 refine⟨n*k,?_⟩
 rw [Int.mul_add,←Int.mul_assoc,←Int.mul_assoc,Int.mul_comm n 18446744073709551616]
theorem wrap_cgr (x:Int):Cgr (wrap64 x) x:=by
 unfold wrap64
 refine⟨-((x+9223372036854775808) / 18446744073709551616),?_⟩
 omega
theorem wrap_of {x y:Int} (h:Cgr x y):wrap64 x=wrap64 y:=by
 obtain⟨k,rfl⟩:=h
 unfold wrap64
 omega
theorem wrap_one (s n d:Int):wrap64 (wrap64 s+wrap64 (n*wrap64 d))=wrap64 (s+n*d):=
 wrap_of ((wrap_cgr s).add ((wrap_cgr _).trans ((wrap_cgr d).mul n)))
theorem raw_app (acc:List Int) (now:Int):∀a b:List Jb,rawZ acc now (a++b)=rawZ acc now a+rawZ acc now b
 | [],b=>by simp [rawZ]
 | j::a,b=>by simp only [List.cons_append,rawZ,raw_app acc now a b];omega
theorem raw_snoc (acc:List Int) (now:Int) (js:List Jb) (j:Jb):rawZ acc now (js++ [j])=rawZ acc now js+oneZ acc now j:=by
 rw [raw_app];simp [rawZ]
theorem raw_take {acc:List Int} {now:Int} {js:List Jb} {i:Nat} {j:Jb} (h:js[i]?=some j):rawZ acc now (js.take (i+1))=rawZ acc now (js.take i)+oneZ acc now j:=by
 obtain⟨hi,rfl⟩:=List.getElem?_eq_some_iff.1 h
 rw [List.take_succ_eq_append_getElem hi,raw_snoc]
end Lg
end Go.Proofs.YtceoibfliggalaaGreatDoor
namespace Go.Proofs.YtceoibfliggalaaGreatDoor
open Wd Tr Cg
structure Jv where
 ac:Int
 nd:Int
 lm:Int
 sb:Int
 st:Int
 sr:Int
 en:Int
 set:List Int
structure Sv where
 cf:Cf
 now:Int
 la:List Ac
 js:List Jv
 hd:Int
def riseB (n:Int):Int→List Int→Bool
 | _,[]=>true
 | last,x::l=>(decide (last<x)&&decide (x<n))&&riseB n x l
theorem rise_mem {n:Int}:∀ {l:List Int} {last:Int},riseB n last l=true→∀x∈l,last<x∧x<n
 | [],_,_,x,hx=>by cases hx
 | y::l,last,h,x,hx=>by
  simp only [riseB,Bool.and_eq_true,decide_eq_true_eq]at h
  rcases List.mem_cons.1 hx with rfl | hx
  ·exact h.1
  ·have:=rise_mem h.2 x hx
   omega
theorem rise_up {n:Int}:∀ {l:List Int} {last:Int},riseB n last l=true→l.Pairwise (· < ·)
 | [],_,_=>List.Pairwise.nil
 | y::l,last,h=>by
  simp only [riseB,Bool.and_eq_true,decide_eq_true_eq]at h
  exact List.pairwise_cons.2 ⟨fun x hx=>(rise_mem h.2 x hx).1,rise_up h.2⟩
theorem rise_iff {n:Int}:∀ {l:List Int} {last:Int},riseB n last l=true↔(∀x∈l,last<x∧x<n)∧l.Pairwise (· < ·)
 | [],_=>by simp [riseB]
 | y::l,last=>by
  constructor
  ·intro h
   exact⟨rise_mem h,rise_up h⟩
  ·rintro ⟨h1,h2⟩
   simp only [riseB,Bool.and_eq_true,decide_eq_true_eq]
   obtain⟨h3,h4⟩:=List.pairwise_cons.1 h2
   refine⟨h1 y (List.mem_cons_self ..),rise_iff.2 ⟨fun x hx=>⟨h3 x hx,(h1 x (List.mem_cons_of_mem _ hx)).2⟩,h4⟩⟩
def lastOf:Int→List Int→Int
 | last,[]=>last
 | _,x::l=>lastOf x l
theorem lastOf_snoc:∀(l:List Int) (last x:Int),lastOf last (l++ [x])=x
 | [],_,_=>rfl
 | y::l,_,x=>lastOf_snoc l y x
theorem rise_snoc {n:Int}:∀(l:List Int) (last x:Int),riseB n last (l++ [x])=(riseB n last l&&(decide (lastOf last l<x)&&decide (x<n)))
 | [],last,x=>by simp only [List.nil_append,riseB,Bool.and_true,Bool.true_and];rfl
 | y::l,last,x=>by
  simp only [List.cons_append,riseB,rise_snoc l y x,lastOf,Bool.and_assoc]
  rfl
theorem rise_take {n:Int} {l:List Int} {k:Nat} {x last:Int} (h:l[k]?=some x) (hr:riseB n last (l.take k)=true):riseB n last (l.take (k+1))=(decide (lastOf last (l.take k)<x)&&decide (x<n)):=by
 obtain⟨hk,rfl⟩:=List.getElem?_eq_some_iff.1 h
 rw [List.take_succ_eq_append_getElem hk,rise_snoc,hr,Bool.true_and]
theorem lastOf_take {l:List Int} {k:Nat} {x last:Int} (h:l[k]?=some x):lastOf last (l.take (k+1))=x:=by
 obtain⟨hk,rfl⟩:=List.getElem?_eq_some_iff.1 h
 rw [List.take_succ_eq_append_getElem hk,lastOf_snoc]
theorem rise_false {n:Int} {l:List Int} {k:Nat} {last:Int} (h:riseB n last (l.take k)=false):riseB n last l=false:=by
 cases hr:riseB n last l with
 | false=>rfl
 | true=>
  obtain⟨h1,h2⟩:=rise_iff.1 hr
  have:riseB n last (l.take k)=true:=rise_iff.2 ⟨fun x hx=>h1 x (List.mem_of_mem_take hx),h2.sublist (List.take_sublist k l)⟩
  rw [this]at h
  exact h
def setB (n:Int) (j:Jv):Bool:=riseB n (-1) j.set&&decide ((j.set.length:Int)=j.nd)
def timesB (c:Cf) (now:Int) (j:Jv):Bool:=
 if j.st=1 then decide (j.sr=0)&&(decide (j.en=0)&&decide (j.set.length=0))
 else if j.st=6 then decide (j.sr=0)&&(decide (j.sb≤j.en)&&(decide (j.en≤now)&&decide (j.set.length=0)))
 else if setB c.nodes j=false∨j.sr≤j.sb∨now<j.sr then false
 else if j.st=2 then decide (now<j.sr+j.lm)&&decide (j.en=0)
 else if j.st=3∨j.st=5 then decide (j.sr≤j.en)&&(decide (j.en<j.sr+j.lm)&&decide (j.en≤now))
 else if j.st=4 then decide (j.en=j.sr+j.lm)&&decide (j.en≤now)
 else false
def headB (c:Cf) (now:Int) (N:Nat) (p:Int) (j:Jv):Bool:=
 (decide (1≤j.ac)&&(decide (j.ac<(N:Int))&&(decide (1≤j.nd)&&(decide (j.nd≤c.nodes)&&(decide (1≤j.lm)&&decide (j.lm≤c.limit))))))
 &&(decide (0≤j.sb)&&(decide (j.sb≤now)&&(decide (j.sb+boundZ c≤1099511627776)&&decide (p≤j.sb))))
def jobB (c:Cf) (now:Int) (N:Nat) (p:Int) (j:Jv):Bool:=headB c now N p j&&timesB c now j
def aheadOf (js:List Jv) (i:Nat):Int:=if i=0 then 0 else match js[i - 1]? with
 | none=>0
 | some j=>j.sb
def jobsB (c:Cf) (now:Int) (N:Nat) (js:List Jv) (n:Nat):Bool:=(List.range n).all fun i=>match js[i]? with
 | none=>true
 | some j=>jobB c now N (aheadOf js i) j
theorem jobs_iff {c:Cf} {now:Int} {N:Nat} {js:List Jv} {n:Nat}:jobsB c now N js n=true↔∀i,i<n→∀j,js[i]?=some j→jobB c now N (aheadOf js i) j=true:=by
 unfold jobsB
 rw [List.all_eq_true]
 constructor
 ·intro h i hi j hj
  have:=h i (List.mem_range.2 hi)
  rw [hj]at this
  exact this
 ·intro h i hi
  cases hj:js[i]? with
  | none=>rfl
  | some j=>exact h i (List.mem_range.1 hi) j hj
theorem jobs_succ {c:Cf} {now:Int} {N:Nat} {js:List Jv} {n:Nat} {j:Jv} (hj:js[n]?=some j):jobsB c now N js (n+1)=(jobsB c now N js n&&jobB c now N (aheadOf js n) j):=by
 unfold jobsB
 rw [List.range_succ,List.all_append]
 simp [hj]
def pendN (js:List Jv):Nat:=(js.filter fun j=>decide (j.st=1)).length
theorem pend_succ {js:List Jv} {n:Nat} {j:Jv} (hj:js[n]?=some j):pendN (js.take (n+1))=pendN (js.take n)+(if j.st=1 then 1 else 0):=by
 obtain⟨hk,rfl⟩:=List.getElem?_eq_some_iff.1 hj
 unfold pendN
 rw [List.take_succ_eq_append_getElem hk,List.filter_append,List.length_append]
 by_cases h:js[n].st=1<;>simp [h]
def overB (a b:Jv):Bool:=(decide (a.st=2)||decide (b.sr<a.en))&&((decide (b.st=2)||decide (a.sr<b.en))&&((decide (a.st=2)||decide (a.sr<a.en))&&(decide (b.st=2)||decide (b.sr<b.en))))
def meetB (a b:List Int):Bool:=a.any fun n=>b.any fun m=>decide (n=m)
theorem meet_iff {a b:List Int}:meetB a b=true↔∃n,n∈a∧n∈b:=by
 unfold meetB
 rw [List.any_eq_true]
 constructor
 ·rintro ⟨n,hn,h⟩
  obtain⟨m,hm,e⟩:=List.any_eq_true.1 h
  exact⟨n,hn,by rw [of_decide_eq_true e];exact hm⟩
 ·rintro ⟨n,hn,hm⟩
  exact⟨n,hn,List.any_eq_true.2 ⟨n,hm,by simp⟩⟩
def commonB (a b:Jv):Bool:=overB a b&&meetB a.set b.set
theorem over_comm (a b:Jv):overB a b=overB b a:=by
 rw [Bool.eq_iff_iff]
 simp only [overB,Bool.and_eq_true,Bool.or_eq_true,decide_eq_true_eq]
 constructor<;>rintro ⟨h1,h2,h3,h4⟩<;>exact⟨h2,h1,h4,h3⟩
theorem meet_comm (a b:List Int):meetB a b=meetB b a:=by
 rw [Bool.eq_iff_iff,meet_iff,meet_iff]
 constructor<;>rintro ⟨n,h1,h2⟩<;>exact⟨n,h2,h1⟩
theorem common_comm (a b:Jv):commonB a b=commonB b a:=by
 unfold commonB
 rw [over_comm,meet_comm]
def apartB (js:List Jv) (n:Nat):Bool:=(List.range n).all fun i=>match js[i]? with
 | none=>true
 | some a=>(js.take i).all fun b=> !commonB a b
theorem apart_iff {js:List Jv} {n:Nat}:apartB js n=true↔∀i,i<n→∀a,js[i]?=some a→∀b∈js.take i,commonB a b=false:=by
 unfold apartB
 rw [List.all_eq_true]
 constructor
 ·intro h i hi a ha b hb
  have:=h i (List.mem_range.2 hi)
  rw [ha]at this
  have:=List.all_eq_true.1 this b hb
  simpa using this
 ·intro h i hi
  cases ha:js[i]? with
  | none=>rfl
  | some a=>exact List.all_eq_true.2 fun b hb=>by simp [h i (List.mem_range.1 hi) a ha b hb]
theorem apart_succ {js:List Jv} {n:Nat} {a:Jv} (ha:js[n]?=some a):apartB js (n+1)=(apartB js n&&(js.take n).all fun b=> !commonB a b):=by
 unfold apartB
 rw [List.range_succ,List.all_append]
 simp [ha]
def ranJ (now:Int) (j:Jv):Int:=if j.st=3∨j.st=4∨j.st=5 then j.en - j.sr else if j.st=2 then now - j.sr else 0
def rawJ (a now:Int):List Jv→Int
 | []=>0
 | j::js=>(if j.ac=a then j.nd*ranJ now j else 0)+rawJ a now js
def usageB (now:Int) (js:List Jv) (n:Nat) (a:Ac):Bool:=decide (a.us≤rawJ (n:Int) now js*4294967296)
def usagesB (now:Int) (js:List Jv) (la:List Ac) (n:Nat):Bool:=(List.range n).all fun i=>match la[i]? with
 | none=>true
 | some a=>usageB now js i a
theorem usages_iff {now:Int} {js:List Jv} {la:List Ac} {n:Nat}:usagesB now js la n=true↔∀i,i<n→∀a,la[i]?=some a→usageB now js i a=true:=by
 unfold usagesB
 rw [List.all_eq_true]
 constructor
 ·intro h i hi a ha
  have:=h i (List.mem_range.2 hi)
  rw [ha]at this
  exact this
 ·intro h i hi
  cases ha:la[i]? with
  | none=>rfl
  | some a=>exact h i (List.mem_range.1 hi) a ha
theorem usages_succ {now:Int} {js:List Jv} {la:List Ac} {n:Nat} {a:Ac} (ha:la[n]?=some a):usagesB now js la (n+1)=(usagesB now js la n&&usageB now js n a):=by
 unfold usagesB
 rw [List.range_succ,List.all_append]
 simp [ha]
def holdB (s:Sv):Bool:=decide (s.hd= -1)||(decide (0≤s.hd)&&match s.js[s.hd.toNat]? with
 | none=>false
 | some j=>decide (j.st=1)&&decide (j.sb<s.now))
def tailV (s:Sv):Int:=
 if s.cf.queue<(pendN s.js:Int)then 175
 else if apartB s.js s.js.length=false then 176
 else if usagesB s.now s.js s.la s.la.length=false then 173
 else if holdB s=false then 177 else 0
def auditV (e:Int) (s:Sv):Int:=
 if e≠0 then 170
 else if s.now<0∨1099511627776<s.now then 171
 else if loadE s.la≠0 then 172
 else if 4096<s.js.length∨jobsB s.cf s.now s.la.length s.js s.js.length=false then 174
 else tailV s
end Go.Proofs.YtceoibfliggalaaGreatDoor

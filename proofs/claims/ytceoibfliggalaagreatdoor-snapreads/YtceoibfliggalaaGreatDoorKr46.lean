/-
  TEXTS: SnX, SqB.
-/
import Derived.Test.YtceoibfliggalaaGreatDoorKr30
import Derived.Test.YtceoibfliggalaaGreatDoorKr45
import Derived.Test.YtceoibfliggalaaGreatDoorKr9
namespace Go.Proofs.YtceoibfliggalaaGreatDoor
open Tr Cg Go.RowKit Wd
def I64 (n:Int):Prop:= -9223372036854775808≤n∧n<9223372036854775808
theorem ofBe_be8 (n:Int):ofBe (be8 n) 0=n % 18446744073709551616:=by
 unfold be8
 simp only [ofBe,byU_nat]
 rw [show (2:Int)^(8*7)=72057594037927936 by decide,show (2:Int)^(8*6)=281474976710656 by decide,show (2:Int)^(8*5)=1099511627776 by decide,show (2:Int)^(8*4)=4294967296 by decide,show (2:Int)^(8*3)=16777216 by decide,show (2:Int)^(8*2)=65536 by decide,show (2:Int)^(8*1)=256 by decide,show (2:Int)^(8*0)=1 by decide]
 omega
theorem numGo_rng (l:List UInt8) (b:UInt8):I64 (numGo (l++ [b]) 0):=by
 rw [numGo_app]
 show I64 (wrap64 (numGo l 0*256)+(b.toNat:Int))
 have:=b.toNat_lt
 unfold I64 wrap64
 omega
theorem num_be8 {n:Int} (h:I64 n):numGo (be8 n) 0=n:=by
 have h1:=numGo_mod (be8 n) 0
 rw [ofBe_be8]at h1
 have h2:I64 (numGo (be8 n) 0):=numGo_rng [byU n 7,byU n 6,byU n 5,byU n 4,byU n 3,byU n 2,byU n 1] (byU n 0)
 unfold I64 at h h2
 omega
theorem bytF_app (l t:List UInt8):bytF l.length (some (l++t))=(l,some t):=by
 show (if l.length≤(l++t).length then _ else _)=_
 rw [if_pos (by simp),List.take_left,List.drop_left]
theorem numF_be8 {n:Int} (h:I64 n) (t:List UInt8):numF (some (be8 n++t))=(n,some t):=by
 unfold numF
 rw [show bytF 8 (some (be8 n++t))=(be8 n,some t)from bytF_app (be8 n) t]
 simp only [num_be8 h]
theorem numsF_numsB:∀ {l:List Int},(∀n∈l,I64 n)→∀t,numsF l.length (some (numsB l++t))=(l,some t)
 | [],_,_=>rfl
 | n::l,h,t=>by
  have e:numsB (n::l)++t=be8 n++(numsB l++t):=by unfold numsB;rw [List.flatMap_cons,List.append_assoc]
  have hn:=numF_be8 (h n List.mem_cons_self) (numsB l++t)
  have ih:=numsF_numsB (l:=l) (fun m hm=>h m (List.mem_cons_of_mem _ hm)) t
  rw [e]
  show ((numF (some (be8 n++(numsB l++t)))).1::(numsF l.length (numF (some (be8 n++(numsB l++t)))).2).1,(numsF l.length (numF (some (be8 n++(numsB l++t)))).2).2)=_
  rw [hn]
  simp only [ih]
theorem cntF_be8 {least n:Nat} {t:List UInt8} (h:n≤t.length / least) (hn:n<9223372036854775808):cntF least (some (be8 n++t))=((n:Int),some t):=by
 have e:=numF_be8 (n:=(n:Int)) ⟨by omega,by omega⟩ t
 have hB:cntB least (some (be8 n++t))=true:=by
  unfold cntB
  rw [e]
  show (decide ((0:Int)≤n)&&decide ((n:Int)≤((t.length / least:Nat):Int)))=true
  simp only [Bool.and_eq_true,decide_eq_true_eq]
  omega
 unfold cntF
 rw [hB,e]
 rfl
structure AcOk (a:Ac):Prop where
 pa:I64 a.pa
 sh:I64 a.sh
 us:Word a.us
 nm:a.nm.size<9223372036854775808
structure JbOk (j:Jv):Prop where
 ac:I64 j.ac
 nd:I64 j.nd
 lm:I64 j.lm
 sb:I64 j.sb
 st:I64 j.st
 sr:I64 j.sr
 en:I64 j.en
 set:∀n∈j.set,I64 n
 len:j.set.length<9223372036854775808
theorem acF_acB {a:Ac} (h:AcOk a) (t:List UInt8):acF (some (acB a++t))=(a,some t):=by
 obtain⟨u,hu,hu2⟩:∃u,I64 u∧u % 18446744073709551616=a.us:=⟨wrap64 a.us,by have:=h.us;unfold Word at this;unfold I64 wrap64;omega,by have:=h.us;unfold Word at this;unfold wrap64;omega⟩
 have hbu:be8 a.us=be8 u:=be8_mod (by have:=h.us;unfold Word at this;omega)
 have hcl:I64 (if a.cl then 1 else 0):=by unfold I64;split<;>omega
 have e:acB a++t=be8 (a.nm.size:Nat)++(a.nm.data.toList++(numsB [a.pa,a.sh,if a.cl then 1 else 0,u]++t)):=by
  unfold acB numsB
  simp [hbu]
 have hsz:a.nm.data.toList.length=a.nm.size:=rfl
 have e1:cntF 1 (some (acB a++t))=((a.nm.size:Int),some (a.nm.data.toList++(numsB [a.pa,a.sh,if a.cl then 1 else 0,u]++t))):=by
  rw [e]
  exact cntF_be8 (by rw [Nat.div_one,List.length_append,hsz];omega) h.nm
 have e2:acS (some (acB a++t))=(a.nm.data.toList,some (numsB [a.pa,a.sh,if a.cl then 1 else 0,u]++t)):=by
  unfold acS
  rw [e1]
  exact bytF_app a.nm.data.toList _
 have e3:numsF 4 (acS (some (acB a++t))).2=([a.pa,a.sh,if a.cl then 1 else 0,u],some t):=by
  rw [e2]
  exact numsF_numsB (l:= [a.pa,a.sh,if a.cl then 1 else 0,u]) (by
   intro n hn
   simp only [List.mem_cons,List.not_mem_nil,or_false]at hn
   rcases hn with rfl | rfl | rfl | rfl
   ·exact h.pa
   ·exact h.sh
   ·exact hcl
   ·exact hu) t
 unfold acF
 rw [e3,e2]
 obtain⟨nm,pa,sh,cl,us⟩:=a
 simp only at hu2
 subst hu2
 cases cl<;>rfl
theorem jbF_jbB {j:Jv} (h:JbOk j) (t:List UInt8):jbF (some (jbB j++t))=(j,some t):=by
 have e:jbB j++t=numsB [j.ac,j.nd,j.lm,j.sb,j.st,j.sr,j.en]++(be8 (j.set.length:Nat)++(numsB j.set++t)):=by
  unfold jbB
  simp
 have e1:numsF 7 (some (jbB j++t))=([j.ac,j.nd,j.lm,j.sb,j.st,j.sr,j.en],some (be8 (j.set.length:Nat)++(numsB j.set++t))):=by
  rw [e]
  exact numsF_numsB (l:= [j.ac,j.nd,j.lm,j.sb,j.st,j.sr,j.en]) (by
   intro n hn
   simp only [List.mem_cons,List.not_mem_nil,or_false]at hn
   rcases hn with rfl | rfl | rfl | rfl | rfl | rfl | rfl
   ·exact h.ac
   ·exact h.nd
   ·exact h.lm
   ·exact h.sb
   ·exact h.st
   ·exact h.sr
   ·exact h.en) _
 have e2:jbS (some (jbB j++t))=((j.set.length:Int),some (numsB j.set++t)):=by
  unfold jbS
  rw [e1]
  exact cntF_be8 (by rw [List.length_append,nums_len];omega) h.len
 have e3:numsF (jbS (some (jbB j++t))).1.toNat (jbS (some (jbB j++t))).2=(j.set,some t):=by
  rw [e2]
  exact numsF_numsB h.set t
 unfold jbF
 rw [e3,e1]
 rfl
theorem acsF_acB:∀ {la:List Ac},(∀a∈la,AcOk a)→∀t,acsF la.length (some (la.flatMap acB++t))=(la,some t)
 | [],_,_=>rfl
 | a::la,h,t=>by
  have hn:=acF_acB (h a List.mem_cons_self) (la.flatMap acB++t)
  have ih:=acsF_acB (la:=la) (fun m hm=>h m (List.mem_cons_of_mem _ hm)) t
  rw [List.flatMap_cons,List.append_assoc]
  show ((acF _).1::(acsF la.length (acF _).2).1,(acsF la.length (acF _).2).2)=_
  rw [hn]
  simp only [ih]
theorem jbsF_jbB:∀ {js:List Jv},(∀j∈js,JbOk j)→∀t,jbsF js.length (some (js.flatMap jbB++t))=(js,some t)
 | [],_,_=>rfl
 | j::js,h,t=>by
  have hn:=jbF_jbB (h j List.mem_cons_self) (js.flatMap jbB++t)
  have ih:=jbsF_jbB (js:=js) (fun m hm=>h m (List.mem_cons_of_mem _ hm)) t
  rw [List.flatMap_cons,List.append_assoc]
  show ((jbF _).1::(jbsF js.length (jbF _).2).1,(jbsF js.length (jbF _).2).2)=_
  rw [hn]
  simp only [ih]
theorem acB_many:∀la:List Ac,la.length*40≤(la.flatMap acB).length
 | []=>Nat.le_refl _
 | a::la=>by
  have:=acB_many la
  rw [List.flatMap_cons,List.length_append,ac_len,List.length_cons]
  omega
theorem jbB_many:∀js:List Jv,js.length*64≤(js.flatMap jbB).length
 | []=>Nat.le_refl _
 | j::js=>by
  have:=jbB_many js
  rw [List.flatMap_cons,List.length_append,jb_len,List.length_cons]
  omega
structure StOk (s:Sv):Prop where
 head:∀n∈ [s.cf.nodes,s.cf.queue,s.cf.limit,s.cf.age,s.cf.fair,s.cf.size,s.cf.period,s.cf.half,s.now,s.hd],I64 n
 acs:∀a∈s.la,AcOk a
 jobs:∀j∈s.js,JbOk j
 la:s.la.length<9223372036854775808
 js:s.js.length<9223372036854775808
theorem read_forth {s:Sv} (h:StOk s):(rd2 (stB s)).1= [s.cf.nodes,s.cf.queue,s.cf.limit,s.cf.age,s.cf.fair,s.cf.size,s.cf.period,s.cf.half,s.now,s.hd]∧(rd4 (stB s)).1=s.la∧(rd6 (stB s)).1=s.js∧rd7 (stB s)=some []:=by
 have e1:rd1 (stB s)=some (hdsB s.cf s.now s.hd++(be8 (s.la.length:Nat)++(s.la.flatMap acB++(be8 (s.js.length:Nat)++s.js.flatMap jbB)))):=by
  unfold rd1
  rw [show bytF 9 (some (stB s))=(markB,some (hdsB s.cf s.now s.hd++(be8 (s.la.length:Nat)++(s.la.flatMap acB++(be8 (s.js.length:Nat)++s.js.flatMap jbB)))))from bytF_app markB _]
  rw [decide_eq_true rfl]
  rfl
 have e2:rd2 (stB s)=([s.cf.nodes,s.cf.queue,s.cf.limit,s.cf.age,s.cf.fair,s.cf.size,s.cf.period,s.cf.half,s.now,s.hd],some (be8 (s.la.length:Nat)++(s.la.flatMap acB++(be8 (s.js.length:Nat)++s.js.flatMap jbB)))):=by
  unfold rd2
  rw [e1]
  exact numsF_numsB h.head _
 have e3:rd3 (stB s)=((s.la.length:Int),some (s.la.flatMap acB++(be8 (s.js.length:Nat)++s.js.flatMap jbB))):=by
  unfold rd3
  rw [e2]
  exact cntF_be8 (by have:=acB_many s.la;rw [List.length_append];omega) h.la
 have e4:rd4 (stB s)=(s.la,some (be8 (s.js.length:Nat)++s.js.flatMap jbB)):=by
  unfold rd4
  rw [e3]
  exact acsF_acB h.acs _
 have e5:rd5 (stB s)=((s.js.length:Int),some (s.js.flatMap jbB)):=by
  unfold rd5
  rw [e4]
  exact cntF_be8 (by have:=jbB_many s.js;omega) h.js
 have e6:rd6 (stB s)=(s.js,some []):=by
  unfold rd6
  rw [e5]
  have:=jbsF_jbB h.jobs []
  rw [List.append_nil]at this
  exact this
 refine⟨by rw [e2],by rw [e4],by rw [e6],?_⟩
 unfold rd7
 rw [e6]
 rfl
end Go.Proofs.YtceoibfliggalaaGreatDoor
namespace Go.Proofs.YtceoibfliggalaaGreatDoor
open Wd Tr Cg Lg
theorem name_len {a:ByteArray} (h:okName a=true):a.size≤32:=by
 unfold okName at h
 simp at h
 omega
end Go.Proofs.YtceoibfliggalaaGreatDoor

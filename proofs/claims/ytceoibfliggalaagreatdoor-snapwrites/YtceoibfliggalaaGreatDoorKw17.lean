/-
  TEXTS: SnM.
-/
import Derived.Test.YtceoibfliggalaaGreatDoorKw8
import Derived.Lib.BufferWrite
namespace Go.Proofs.YtceoibfliggalaaGreatDoor
open Tr Cg
def byU (n:Int) (i:Nat):UInt8:=UInt8.ofNat ((n / 2^(8*i)) % 256).toNat
theorem byU_nat (n:Int) (i:Nat):(((byU n i).toNat:Nat):Int)=(n / 2^(8*i)) % 256:=by
 have h0:=Int.emod_nonneg (n / 2^(8*i)) (show (256:Int)≠0 by decide)
 have h1:=Int.emod_lt_of_pos (n / 2^(8*i)) (show (0:Int)<256 by decide)
 unfold byU
 rw [UInt8.toNat_ofNat']
 omega
def be8 (n:Int):List UInt8:= [byU n 7,byU n 6,byU n 5,byU n 4,byU n 3,byU n 2,byU n 1,byU n 0]
theorem be8_len (n:Int):(be8 n).length=8:=rfl
def numsB (l:List Int):List UInt8:=l.flatMap be8
theorem nums_len:∀l:List Int,(numsB l).length=l.length*8
 | []=>rfl
 | n::l=>by
  have:=nums_len l
  unfold numsB at this ⊢
  rw [List.flatMap_cons,List.length_append,this,be8_len,List.length_cons]
  omega
theorem nums_app (a b:List Int):numsB (a++b)=numsB a++numsB b:=by unfold numsB;rw [List.flatMap_append]
def ofBe:List UInt8→Int→Int
 | [],a=>a
 | b::l,a=>ofBe l (a*256+(b.toNat:Int))
def markB:List UInt8:= [98,97,99,107,102,105,108,108,49]
def acB (a:Ac):List UInt8:=be8 a.nm.size++(a.nm.data.toList++numsB [a.pa,a.sh,if a.cl then 1 else 0,a.us])
def jbB (j:Jv):List UInt8:=numsB [j.ac,j.nd,j.lm,j.sb,j.st,j.sr,j.en]++(be8 j.set.length++numsB j.set)
def hdsB (c:Cf) (now hd:Int):List UInt8:=numsB [c.nodes,c.queue,c.limit,c.age,c.fair,c.size,c.period,c.half,now,hd]
def stB (s:Sv):List UInt8:=markB++(hdsB s.cf s.now s.hd++(be8 s.la.length++(s.la.flatMap acB++(be8 s.js.length++s.js.flatMap jbB))))
theorem ac_len (a:Ac):(acB a).length=40+a.nm.size:=by
 unfold acB
 rw [List.length_append,List.length_append,be8_len,nums_len,←Lib.size_eq]
 simp
 omega
theorem jb_len (j:Jv):(jbB j).length=64+j.set.length*8:=by
 unfold jbB
 rw [List.length_append,List.length_append,be8_len,nums_len,nums_len]
 simp
 omega
theorem byU_mod {a b:Int} {i:Nat} (hi:i<8) (h:a % 18446744073709551616=b % 18446744073709551616):byU a i=byU b i:=by
 have key:∀n:Int,(n / 2^(8*i)) % 256=((n % 18446744073709551616) / 2^(8*i)) % 256:=fun n=>by
  have e:n=n % 18446744073709551616+18446744073709551616*(n / 18446744073709551616):=(Int.emod_add_mul_ediv n _).symm
  generalize n % 18446744073709551616=r at e ⊢
  generalize n / 18446744073709551616=q at e
  subst e
  obtain rfl | rfl | rfl | rfl | rfl | rfl | rfl | rfl:i=0∨i=1∨i=2∨i=3∨i=4∨i=5∨i=6∨i=7:=by omega
  ·rw [show (2:Int)^(8*0)=1 by decide];omega
  ·rw [show (2:Int)^(8*1)=256 by decide];omega
  ·rw [show (2:Int)^(8*2)=65536 by decide];omega
  ·rw [show (2:Int)^(8*3)=16777216 by decide];omega
  ·rw [show (2:Int)^(8*4)=4294967296 by decide];omega
  ·rw [show (2:Int)^(8*5)=1099511627776 by decide];omega
  ·rw [show (2:Int)^(8*6)=281474976710656 by decide];omega
  ·rw [show (2:Int)^(8*7)=72057594037927936 by decide];omega
 unfold byU
 rw [key a,key b,h]
theorem be8_mod {a b:Int} (h:a % 18446744073709551616=b % 18446744073709551616):be8 a=be8 b:=by
 unfold be8
 rw [byU_mod (by decide) h,byU_mod (by decide) h,byU_mod (by decide) h,byU_mod (by decide) h,byU_mod (by decide) h,byU_mod (by decide) h,byU_mod (by decide) h,byU_mod (by decide) h]
end Go.Proofs.YtceoibfliggalaaGreatDoor

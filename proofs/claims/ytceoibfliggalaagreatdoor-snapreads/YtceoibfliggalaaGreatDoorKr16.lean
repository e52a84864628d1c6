/-
  TEXTS: SnM, WpN.
-/
import Derived.Test.YtceoibfliggalaaGreatDoorKr7
import Derived.Lib.BufferWrite
import Derived.Test.YtceoibfliggalaaGreatDoorKr11
namespace Go.Proofs.YtceoibfliggalaaGreatDoor
open Tr Cg
def byU (n:Int) (i:Nat):UInt8:=UInt8.ofNat ((n / 2^(8*i)) % 256).toNat
theorem byU_nat (n:Int) (i:Nat):(((byU n i).toNat:Nat):Int)=(n / 2^(8*i)) % 256:=by
 have h0:=Int.emod_nonneg (n / 2^(8*i)) (show (256:Int)≠0 by decide)
 have h1:=Int.emod_lt_of_pos (n / 2^(8*i)) (show (0:Int)<256 by decide)
 unfold byU
 rw [UInt8.toNat_ofNat']
 omega
def be8 (n:Int):List UInt8:= [byU n 7,byU n 6,byU n 5,byU n 4,byU n 3,byU n 2,byU n 1,byU n 0]
theorem be8_len (n:Int):(be8 n).length=8:=rfl
def numsB (l:List Int):List UInt8:=l.flatMap be8
theorem nums_len:∀l:List Int,(numsB l).length=l.length*8
 | []=>rfl
 | n::l=>by
  have:=nums_len l
  unfold numsB at this ⊢
  rw [List.flatMap_cons,List.length_append,this,be8_len,List.length_cons]
  omega
theorem nums_app (a b:List Int):numsB (a++b)=numsB a++numsB b:=by unfold numsB;rw [List.flatMap_append]
def ofBe:List UInt8→Int→Int
 | [],a=>a
 | b::l,a=>ofBe l (a*256+(b.toNat:Int))
def markB:List UInt8:= [98,97,99,107,102,105,108,108,49]
def acB (a:Ac):List UInt8:=be8 a.nm.size++(a.nm.data.toList++numsB [a.pa,a.sh,if a.cl then 1 else 0,a.us])
def jbB (j:Jv):List UInt8:=numsB [j.ac,j.nd,j.lm,j.sb,j.st,j.sr,j.en]++(be8 j.set.length++numsB j.set)
def hdsB (c:Cf) (now hd:Int):List UInt8:=numsB [c.nodes,c.queue,c.limit,c.age,c.fair,c.size,c.period,c.half,now,hd]
def stB (s:Sv):List UInt8:=markB++(hdsB s.cf s.now s.hd++(be8 s.la.length++(s.la.flatMap acB++(be8 s.js.length++s.js.flatMap jbB))))
theorem ac_len (a:Ac):(acB a).length=40+a.nm.size:=by
 unfold acB
 rw [List.length_append,List.length_append,be8_len,nums_len,←Lib.size_eq]
 simp
 omega
theorem jb_len (j:Jv):(jbB j).length=64+j.set.length*8:=by
 unfold jbB
 rw [List.length_append,List.length_append,be8_len,nums_len,nums_len]
 simp
 omega
theorem byU_mod {a b:Int} {i:Nat} (hi:i<8) (h:a % 18446744073709551616=b % 18446744073709551616):byU a i=byU b i:=by
 have key:∀n:Int,(n / 2^(8*i)) % 256=((n % 18446744073709551616) / 2^(8*i)) % 256:=fun n=>by
  have e:n=n % 18446744073709551616+18446744073709551616*(n / 18446744073709551616):=(Int.emod_add_mul_ediv n _).symm
  generalize n % 18446744073709551616=r at e ⊢
  generalize n / 18446744073709551616=q at e
  subst e
  obtain rfl | rfl | rfl | rfl | rfl | rfl | rfl | rfl:i=0∨i=1∨i=2∨i=3∨i=4∨i=5∨i=6∨i=7:=by omega
  ·rw [show (2:Int)^(8*0)=1 by decide];omega
  ·rw [show (2:Int)^(8*1)=256 by decide];omega
  ·rw [show (2:Int)^(8*2)=65536 by decide];omega
  ·rw [show (2:Int)^(8*3)=16777216 by decide];omega
  ·rw [show (2:Int)^(8*4)=4294967296 by decide];omega
  ·rw [show (2:Int)^(8*5)=1099511627776 by decide];omega
  ·rw [show (2:Int)^(8*6)=281474976710656 by decide];omega
  ·rw [show (2:Int)^(8*7)=72057594037927936 by decide];omega
 unfold byU
 rw [key a,key b,h]
theorem be8_mod {a b:Int} (h:a % 18446744073709551616=b % 18446744073709551616):be8 a=be8 b:=by
 unfold be8
 rw [byU_mod (by decide) h,byU_mod (by decide) h,byU_mod (by decide) h,byU_mod (by decide) h,byU_mod (by decide) h,byU_mod (by decide) h,byU_mod (by decide) h,byU_mod (by decide) h]
end Go.Proofs.YtceoibfliggalaaGreatDoor
namespace Go.Proofs.YtceoibfliggalaaGreatDoor
open Go
def chOk (md:Region.Mode) (ops:Array Oper) (listed:Array Bool) (ch:List Nat) (i L:Nat):Bool:=
 ch.all (fun d=> !(listed.getD d true))&&ch.all (fun d=>d==i||ch.any (fun p=>Region.waitsFor md ops d p))&&ch.contains L&&i != L
theorem last_firstC {P:Program} {ops:Array Oper} {Q:Exit→Act→World→Prop} {md:Region.Mode} {S:World→Prop} {L:Nat} {i:Nat} {oi:Oper} {v:Value} {ch:List Nat} (hi:ops[i]?=some oi) (hsel:∀(j:Nat) (o:Oper) cs b,ops[j]?=some o→o.op≠.select cs b) (hQ:∀c a w,Q (.panic c) (a.put oi.dst v) w→Q (.panic c) a w)
  (hw:∀d∈ch,d=i∨∃p∈ch,Region.waitsFor md ops d p=true) (hLc:L∈ch) (hiL:i≠L):
  ∀(fuel:Nat) (listed:Array Bool) (a:Act) (w:World),(∀d∈ch,listed.getD d true=false)→
   (∀j oj,ops[j]?=some oj→j≠i→listed.getD j true=false→(∀e∈oj.after,Region.binds md e=true→e.on≠i)→oi.apart ops oj=true)→
   i∈Region.ready md ops listed→YieldsIf P ops S oi v a→S w→
   wpLast P md ops Q S L fuel (listed.setIfInBounds i true) (a.put oi.dst v) w→wpLast P md ops Q S L (fuel+1) listed a w:=by
 intro fuel
 induction fuel with
 | zero=>
  intro listed a w _ _ hr hy hS H
  refine⟨fun h=>(by rw [h]at hr;cases hr),fun j hj=>?_⟩
  by_cases hji:j=i
  ·subst hji
   exact hy.wpOp hi hS ⟨fun _=>hS,H⟩
  ·have:=ready_mono hj hji
   rw [H.1]at this
   cases this
 | succ fuel ih=>
  intro listed a w hun hfree hr hy hS H
  refine⟨fun h=>(by rw [h]at hr;cases hr),fun j hj=>?_⟩
  by_cases hji:j=i
  ·subst hji
   exact hy.wpOp hi hS ⟨fun _=>hS,H⟩
  ·obtain ⟨hjun,oj,hoj,hall⟩:=mem_ready.1 hj
   have hno:∀k,listed.getD k true=false→∀e∈oj.after,Region.binds md e=true→e.on≠k:=fun k hk e he hb heq=>by
    have h1:=hall e he hb
    rw [heq]at h1
    rcases Nat.lt_or_ge k listed.size with h' | h'
    ·simp [h']at hk h1;rw [hk]at h1;cases h1
    ·simp [Array.getElem?_eq_none h']at h1
   have hnot:∀e∈oj.after,Region.binds md e=true→e.on≠i:=hno i (mem_ready.1 hr).1
   have hjc:j∉ch:=fun hc=>by
    rcases hw j hc with e | ⟨p,hp,hwp⟩
    ·exact hji e
    ·obtain ⟨oL,h1,e,he,hb,hon⟩:=Region.waitsFor_spec hwp
     rw [hoj]at h1
     cases h1
     exact hno p (hun p hp) e he hb hon
   have hjL:j≠L:=fun e=>hjc (by rw [e];exact hLc)
   have h1:=H.2 j (ready_mono hj hji)
   have h2:=wpOp_putIf hoj (hfree j oj hoj hji hjun hnot) (fun cs b=>hsel i oi cs b hi) (fun cs b=>hsel j oj cs b hoj) hQ hy h1
   have hfree':∀k ok,ops[k]?=some ok→k≠i→(listed.setIfInBounds j true).getD k true=false→(∀e∈ok.after,Region.binds md e=true→e.on≠i)→oi.apart ops ok=true:=fun k ok hk hki hun hno=>by
    refine hfree k ok hk hki ?_ hno
    by_cases hjk:j=k
    ·subst hjk;exact hjun
    ·rw [getD_set_ne true hjk]at hun;exact hun
   have hun':∀d∈ch,(listed.setIfInBounds j true).getD d true=false:=fun d hd=>by
    have hne:j≠d:=fun e=>hjc (by rw [e];exact hd)
    rw [getD_set_ne true hne]
    exact hun d hd
   refine wpOp_mono (fun a' w' h3=>⟨fun _=>h3.2.1 hjL,ih (listed.setIfInBounds j true) a' w' hun' hfree' (ready_mono hr (Ne.symm hji)) h3.1 (h3.2.1 hjL) ?_⟩) h2
   rw [Array.setIfInBounds_comm _ _ hji]
   exact h3.2.2
theorem last_takeC {P:Program} {ops:Array Oper} {Q:Exit→Act→World→Prop} {md:Region.Mode} {S:World→Prop} {L:Nat} {i d:Nat} {oi:Oper} {v:Value} {fuel:Nat} {listed:Array Bool} {a:Act} {w:World} (ch:List Nat) (hi:ops[i]?=some oi) (hs:Region.noSelect ops=true) (hf:Region.free md ops listed i=true) (hr:(Region.ready md ops listed).contains i=true)
  (hL:chOk md ops listed ch i L=true) (hd:oi.dst=some d) (hQ:∀c a w,Q (.panic c) (a.put (some d) v) w→Q (.panic c) a w) (hw:Region.wanted oi (yielded ops a.tmps)=true) (hS:S w) (hy:∀w,S w→(execOp a.eval oi).run P w=.ok (.value v) w)
  (h:wpLast P md ops Q S L fuel (listed.setIfInBounds i true) (a.put (some d) v) w):wpLast P md ops Q S L (fuel+1) listed a w:=by
 unfold chOk at hL
 rw [Bool.and_eq_true,Bool.and_eq_true,Bool.and_eq_true]at hL
 obtain⟨⟨⟨h1,h2⟩,h3⟩,h4⟩:=hL
 refine last_firstC (ch:=ch) hi (Region.noSelect_spec hs) (by rw [hd];exact hQ) (fun e he=>?_) (by simpa using h3) (by simpa using h4) fuel listed a w (fun e he=>?_) (Region.free_spec hi hf) (by simpa using hr) (.inl ⟨hw,hy⟩) hS (by rw [hd];exact h)
 ·have:=List.all_eq_true.1 h2 e he
  rw [Bool.or_eq_true]at this
  rcases this with h | h
  ·exact .inl (by simpa using h)
  ·obtain ⟨p,hp,hq⟩:=List.any_eq_true.1 h
   exact .inr ⟨p,hp,hq⟩
 ·simpa using List.all_eq_true.1 h1 e he
theorem tc {P:Program} {ops:Array Oper} {Q:Exit→Act→World→Prop} {md:Region.Mode} {S:World→Prop} {L:Nat} (ch:List Nat) (i:Nat) {d:Nat} {oi:Oper} {v:Value} {fuel:Nat} {listed:Array Bool} {a a':Act} {w:World} (hS:S w)
  (hi:ops[i]?=some oi:=by rfl) (hs:Region.noSelect ops=true:=by kernel_rfl) (hf:Region.free md ops listed i=true:=by kernel_rfl) (hr:(Region.ready md ops listed).contains i=true:=by kernel_rfl)
  (hL:chOk md ops listed ch i L=true:=by kernel_rfl) (hd:oi.dst=some d:=by rfl) (hw:Region.wanted oi (yielded ops a.tmps)=true:=by first | rfl | kernel_rfl)
  (hy:∀w,S w→(execOp a.eval oi).run P w=.ok (.value v) w:=by
   intro xx hSx
   try (have hF:=HF.out xx hSx;repeat (obtain ⟨_,hF⟩:=hF))
   try clear hSx
   go_simp
   try (with_reducible rfl))
  (ha:a.put (some d) v=a':=by simp only [Act.put,List.setIfInBounds_toArray,List.set_cons_zero,List.set_cons_succ];rfl)
  (hQ:∀c a w,Q (.panic c) (a.put (some d) v) w→Q (.panic c) a w:=by exact fun _ _ _ h=>h)
  (h:wpLast P md ops Q S L fuel (listed.setIfInBounds i true) a' w):wpLast P md ops Q S L (fuel+1) listed a w:=
 last_takeC ch hi hs hf hr hL hd hQ hw hS hy (by rw [ha];exact h)
end Go.Proofs.YtceoibfliggalaaGreatDoor

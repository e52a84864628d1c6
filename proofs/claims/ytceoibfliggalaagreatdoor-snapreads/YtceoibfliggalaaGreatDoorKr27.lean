/-
  TEXTS: NdA.
-/
import Derived.Test.YtceoibfliggalaaGreatDoorKr1
import Derived.WalkKit
import Derived.WalkLawsBesides
import Derived.Laws.Bits64b
import Derived.Laws.Bits128
import Derived.RowKit3
import Derived.Deep.LoopGhost
import Derived.WalkSpells
import Derived.Deep.QuietTactic
namespace Go.Proofs.YtceoibfliggalaaGreatDoor
open Go.RowKit Tr
namespace Nd
def wd (F i:Nat):Nat:=F / 2^(64*i) % 18446744073709551616
theorem wd_lt (F i:Nat):wd F i<18446744073709551616:=Nat.mod_lt _ (by decide)
theorem wd_bit (F i j:Nat):(wd F i).testBit j=(decide (j<64)&&F.testBit (64*i+j)):=by
 unfold wd
 rw [show (18446744073709551616:Nat)=2^64 by rfl,Nat.testBit_mod_two_pow,Nat.testBit_div_two_pow,Nat.add_comm]
theorem ret_i {k:IntKind} {a b:Int} (h:a=b):Ending.returned (.int k a)=.returned (.int k b):=by rw [h]
theorem and_lit_div (a d M:Nat) (D m:Int) (hD:D=(d:Int)) (hm:m=(M:Int)) (ha:a<18446744073709551616) (hM:M<18446744073709551616):bits .and .u64 ((a:Int) / D) m=((a / d &&& M:Nat):Int):=by
 rw [hD,hm,←Int.natCast_ediv]
 exact bits_and_u64_nat (a / d) M (Nat.lt_of_le_of_lt (Nat.div_le_self a d) ha) hM
theorem wd_flip (F k i:Nat):wd (F ^^^ 2^k) i=if k / 64=i then wd F i ^^^ 2^(k % 64)else wd F i:=by
 apply Nat.eq_of_testBit_eq
 intro j
 rw [wd_bit,Nat.testBit_xor,Nat.testBit_two_pow]
 split
 ·rw [Nat.testBit_xor,wd_bit,Nat.testBit_two_pow]
  by_cases hj:j<64
  ·by_cases e:k % 64=j
   ·simp [hj,show k=64*i+j by omega]
   ·simp [hj,e,show ¬k=64*i+j by omega]
  ·simp [hj,show ¬k % 64=j by omega]
 ·rw [wd_bit]
  by_cases hj:j<64
  ·simp [hj,show ¬k=64*i+j by omega]
  ·simp [hj]
theorem gr_drew {w w':World} {r:Option Nat} (h:w.grownBy w' r):w.grownBy w'.drew r:=⟨h.os,h.tape,h.output,h.size,h.block⟩
theorem gr_trans {w w1 w2:World} {r:Option Nat} (h:w.grownBy w1 r) (k:w1.grownBy w2 r):w.grownBy w2 r:=
 ⟨k.os.trans h.os,k.tape.trans h.tape,k.output.trans h.output,Nat.le_trans h.size k.size,fun i hi hr=>(k.block i (Nat.lt_of_lt_of_le hi h.size) hr).trans (h.block i hi hr)⟩
theorem gr_refl (w:World) (r:Option Nat):w.grownBy w r:=⟨rfl,rfl,rfl,Nat.le_refl _,fun _ _ _=>rfl⟩
theorem gr_set (w:World) (a:Addr) (v:Value):w.grownBy (w.setCell a v) (some a.block):=
 ⟨rfl,rfl,rfl,by simp [World.setCell],fun i _ hr=>Below.heap_setCell w a v i (fun e=>hr (by rw [e]))⟩
def setCells (n F:Nat):Array Value:= #[.int .i64 n,.int .u64 (wd F 0),.int .u64 (wd F 1),.int .u64 (wd F 2),.int .u64 (wd F 3)]
structure SetIn (w:World) (b n F:Nat):Prop where
 blk:w.heap[b]?=some (.cells (setCells n F) 193 (0,0))
 lo:1≤n
 hi:n≤256
 top:F<2^n
section
variable {w:World} {b n F:Nat}
theorem SetIn.size (h:SetIn w b n F):w.cell? ⟨b,0,none⟩=some (.int .i64 n):=by simp [World.cell?,h.blk,setCells]
theorem SetIn.word (h:SetIn w b n F) (i:Nat) (hi:i<4):w.cell? ⟨b,1+i,none⟩=some (.int .u64 (wd F i)):=by
 match i,hi with
 | 0,_=>simp [World.cell?,h.blk,setCells]
 | 1,_=>simp [World.cell?,h.blk,setCells]
 | 2,_=>simp [World.cell?,h.blk,setCells]
 | 3,_=>simp [World.cell?,h.blk,setCells]
theorem SetIn.free (h:SetIn w b n F) (o:Nat):w.frozen? ⟨b,o,none⟩=false:=by simp [World.frozen?,h.blk]
theorem SetIn.lt (h:SetIn w b n F):b<w.heap.size:=(Array.getElem?_eq_some_iff.1 h.blk).1
theorem SetIn.bit (h:SetIn w b n F) (k:Nat) (hk:n≤k):F.testBit k=false:=Nat.testBit_lt_two_pow (Nat.lt_of_lt_of_le h.top (Nat.pow_le_pow_right (by decide) hk))
theorem set_cells (F k:Nat) (hk:k<256):(setCells n F).setIfInBounds (1+k / 64) (.int .u64 ((wd F (k / 64) ^^^ 2^(k % 64):Nat):Int))=setCells n (F ^^^ 2^k):=by
 have h:k / 64<4:=by omega
 unfold setCells
 simp only [wd_flip]
 match hd:k / 64,h with
 | 0,_=>simp
 | 1,_=>simp
 | 2,_=>simp
 | 3,_=>simp
theorem set_block (h:w.heap[b]?=some (.cells (setCells n F) 193 (0,0))) (k:Nat) (hk:k<256):(w.setCell ⟨b,1+k / 64,none⟩ (.int .u64 ((wd F (k / 64) ^^^ 2^(k % 64):Nat):Int))).heap[b]?=some (.cells (setCells n (F ^^^ 2^k)) 193 (0,0)):=by
 obtain⟨hlt,h'⟩:=Array.getElem?_eq_some_iff.1 h
 show (w.heap.modify b _)[b]?=_
 rw [Array.getElem?_eq_getElem (by simpa using hlt),Array.getElem_modify_self,h']
 simp [set_cells F k hk]
end
theorem flip_bits (F k i:Nat):bits .xor .u64 (wd F i:Int) (IntKind.u64.wrap (2^(k % 64)))=((wd F i ^^^ 2^(k % 64):Nat):Int):=by
 have h:2^(k % 64)<2^64:=Nat.pow_lt_pow_right (by decide) (by omega)
 have e:IntKind.u64.wrap (2^(k % 64))=((2^(k % 64):Nat):Int):=by
  have e2:((2^(k % 64):Nat):Int)=2^(k % 64):=by simp
  rw [IntKind.wrap_u64,←e2]
  generalize 2^(k % 64)=y at h
  omega
 rw [e]
 exact bits_xor_u64_nat _ _ (wd_lt F i) h
theorem flip_any (b n F k:Nat) (w:World) (h:SetIn w b n F) (hk:k<n):
  Calls Tryz.prog 141 #[.pointer (some ⟨b,0,none⟩),.int .i64 k] w fun e w'=>e=.returned (.tuple #[])∧SetIn w' b n (F ^^^ 2^k)∧w.grownBy w' (some b):=by
 have hn:=h.hi
 have hc:=h.word (k / 64) (by omega)
 have hf:=h.free (1+k / 64)
 have hx:=flip_bits F k (k / 64)
 have hb:=set_block h.blk k (by omega)
 go_enter Tryz.func141,Tryz.ntmps141
 go_region
 go_end0
 have hg:=gr_set w ⟨b,1+k / 64,none⟩ (.int .u64 ((wd F (k / 64) ^^^ 2^(k % 64):Nat):Int))
 exact⟨rfl,⟨hb,h.lo,h.hi,Nat.xor_lt_two_pow h.top (Nat.pow_lt_pow_right (by decide) hk)⟩,gr_drew hg⟩
def isB (n:Nat) (k:Int):Bool:=decide (0≤k)&&decide (k<n)
theorem isNode_any (b n F:Nat) (k:Int) (w:World) (h:SetIn w b n F):
  Calls Tryz.prog 187 #[.pointer (some ⟨b,0,none⟩),.int .i64 k] w fun e w'=>e=.returned (.bool (isB n k))∧w'=w:=by
 have hc:=h.size
 by_cases h0:0≤k
 ·go_enter Tryz.func187,Tryz.ntmps187
  go_wp2
  go_ret
  exact⟨by simp [isB,h0],rfl⟩
 ·go_enter Tryz.func187,Tryz.ntmps187
  go_wp2
  go_ret
  exact⟨by simp [isB];omega,rfl⟩
def hasB (F:Nat) (k:Int):Bool:=decide (0≤k)&&F.testBit k.toNat
theorem has_bits (F k:Nat):(bits .and .u64 ((wd F (k / 64):Int) / 2^(k % 64)) 1==1)=F.testBit k:=by
 have e2:((2^(k % 64):Nat):Int)=2^(k % 64):=by simp
 rw [← e2,and_lit_div (wd F (k / 64)) (2^(k % 64)) 1 _ 1 rfl rfl (wd_lt _ _) (by decide),Nat.and_one_is_mod]
 have hb:=wd_bit F (k / 64) (k % 64)
 rw [show 64*(k / 64)+k % 64=k by omega,decide_eq_true (show k % 64<64 by omega),Bool.true_and]at hb
 rw [← hb,Nat.testBit,Nat.shiftRight_eq_div_pow,Nat.and_comm,Nat.and_one_is_mod]
 generalize wd F (k / 64) / 2^(k % 64)=y
 rcases Nat.mod_two_eq_zero_or_one y with h | h<;>simp [h]
theorem has_any (b n F:Nat) (k:Int) (w:World) (h:SetIn w b n F):
  Calls Tryz.prog 172 #[.pointer (some ⟨b,0,none⟩),.int .i64 k] w fun e w'=>e=.returned (.bool (hasB F k))∧w'=w:=by
 cases hB:isB n k with
 | true=>
  obtain⟨m,rfl⟩:∃m:Nat,k=m:=⟨k.toNat,by simp [isB]at hB;omega⟩
  have hm:m<n:=by simp [isB]at hB;omega
  have hn:=h.hi
  have hc:=h.word (m / 64) (by omega)
  have hb:=has_bits F m
  go_enter Tryz.func172,Tryz.ntmps172
  go_wp2_with (go_at_call 187;refine(isNode_any b n F _ _ h).mono ?_;rintro e w' ⟨rfl,rfl⟩;rw [hB])
  go_ret
  exact⟨by simp [hasB],rfl⟩
 | false=>
  have hv:hasB F k=false:=by
   simp only [hasB,Bool.and_eq_false_iff,decide_eq_false_iff_not]
   by_cases h0:0≤k
   ·right
    apply h.bit
    simp [isB]at hB
    omega
   ·exact .inl h0
  rw [hv]
  go_enter Tryz.func172,Tryz.ntmps172
  go_wp2_with (go_at_call 187;refine(isNode_any b n F _ _ h).mono ?_;rintro e w' ⟨rfl,rfl⟩;rw [hB])
  go_ret
  exact⟨rfl,rfl⟩
theorem SetIn.below {w w':World} {b n F:Nat} (h:SetIn w b n F) (hg:Below w.heap.size w w'):SetIn w' b n F:=
 ⟨by rw [hg.block b h.lt];exact h.blk,h.lo,h.hi,h.top⟩
def flipF (F:Nat) (f:Nat→Int):Nat→Nat
 | 0=>F
 | m+1=>flipF F f m ^^^ 2^(f m).toNat
def setB (n:Nat) (f:Nat→Int):Nat→Bool
 | 0=>true
 | m+1=>setB n f m&&(decide (0≤f m)&&decide (f m<n))&&(decide (m=0)||decide (f (m - 1)<f m))
theorem setB_no (n:Nat) (f:Nat→Int) (k d:Nat) (h:setB n f k=false):setB n f (k+d)=false:=by
 induction d with
 | zero=>exact h
 | succ d ih=>rw [← Nat.add_assoc,setB,ih];rfl
theorem setB_at (n:Nat) (f:Nat→Int) (m:Nat) (h:setB n f m=true) (j:Nat) (hj:j<m):0≤f j∧f j<n:=by
 induction m with
 | zero=>omega
 | succ m ih=>
  simp only [setB,Bool.and_eq_true,decide_eq_true_eq]at h
  by_cases e:j=m
  ·subst e;exact h.1.2
  ·exact ih h.1.1 (by omega)
def allB (F:Nat) (f:Nat→Int) (fr:Bool):Nat→Bool
 | 0=>true
 | m+1=>allB F f fr m&&((decide (0≤f m)&&F.testBit (f m).toNat)==fr)
theorem allB_no (F:Nat) (f:Nat→Int) (fr:Bool) (k d:Nat) (h:allB F f fr k=false):allB F f fr (k+d)=false:=by
 induction d with
 | zero=>exact h
 | succ d ih=>rw [← Nat.add_assoc,allB,ih];rfl
theorem ret_b {a b:Bool} (h:a=b):Ending.returned (.bool a)=.returned (.bool b):=by rw [h]
theorem flipAll_any (b n F g o m cap:Nat) (ao:Option Addr) (f:Nat→Int) (w:World) (h:SetIn w b n F) (hao:0<m→ao=some ⟨g,o,none⟩) (hgb:g≠b) (hm:m≤140737488355328)
  (hc:∀j,j<m→w.cell? ⟨g,o+j,none⟩=some (.int .i64 (f j))) (hf:∀j,j<m→0≤f j∧f j<n):
  Calls Tryz.prog 173 #[.pointer (some ⟨b,0,none⟩),.slice ao m cap] w fun e w'=>e=.returned (.tuple #[])∧SetIn w' b n (flipF F f m)∧w.grownBy w' (some b):=by
 go_enter Tryz.func173,Tryz.ntmps173
 go_wp2
 go_loopg [8] m (fun gk c wr=>∃k:Nat,k+gk=m∧c=.int .i64 k∧SetIn wr b n (flipF F f k)∧w.grownBy wr (some b))
 case atStart=>exact⟨0,by omega,rfl,h,gr_refl _ _⟩
 case round=>
  obtain⟨k,hk,rfl,hs,hg⟩:=hrel
  by_cases hlt:k<m
  ·have ha:=hao (by omega)
   subst ha
   have hck:=hg.cell (hc k hlt) (fun e=>hgb (Option.some.inj e))
   obtain⟨q,hq⟩:∃q:Nat,f k=q:=⟨(f k).toNat,by have:=hf k hlt;omega⟩
   have hqn:q<n:=by have:=hf k hlt;omega
   have HQ:Hid (f k=q):=hq
   rw [hq]at hck
   clear hq
   go_wp2_with (go_at_call 141;refine(flip_any b n _ q _ hs hqn).mono ?_;rintro e w' ⟨rfl,hs',hg'⟩)
   go_roundg (m - (k+1))
   case measure=>omega
   case rel=>exact⟨k+1,by omega,by go_num,by rw [flipF,HQ.out];exact hs',gr_trans hg hg'⟩
  ·have e:k=m:=by omega
   subst e
   go_wp2
   go_end0
   exact⟨rfl,hs,hg⟩
theorem isSet_any (b n F g o m cap:Nat) (ao:Option Addr) (f:Nat→Int) (w:World) (h:SetIn w b n F) (hao:0<m→ao=some ⟨g,o,none⟩) (hm:m≤140737488355328)
  (hc:∀j,j<m→w.cell? ⟨g,o+j,none⟩=some (.int .i64 (f j))):
  Calls Tryz.prog 171 #[.pointer (some ⟨b,0,none⟩),.slice ao m cap] w fun e w'=>e=.returned (.bool (setB n f m))∧w'=w:=by
 go_enter Tryz.func171,Tryz.ntmps171
 go_wp2
 go_loopg [9] m (fun gk c wr=>∃k:Nat,k+gk=m∧c=.int .i64 k∧setB n f k=true∧wr=w)
 case atStart=>exact⟨0,by omega,rfl,rfl,rfl⟩
 case round=>
  obtain⟨k,hk,rfl,hs,rfl⟩:=hrel
  by_cases hlt:k<m
  ·have ha:=hao (by omega)
   subst ha
   have hck:=hc k hlt
   cases hB:isB n (f k)with
   | false=>
    have HN:Hid (setB n f m=false):=by
     rw [show m=k+1+(m - (k+1)) by omega]
     apply setB_no
     have:(decide (0≤f k)&&decide (f k<n))=false:=hB
     rw [setB,this];simp
    go_wp2_with (go_at_call 187;refine(isNode_any b n F _ _ h).mono ?_;rintro e w' ⟨rfl,rfl⟩;rw [hB])
    go_ret
    exact⟨ret_b HN.out.symm,rfl⟩
   | true=>
    have hB':(decide (0≤f k)&&decide (f k<n))=true:=hB
    by_cases hk0:k=0
    ·subst hk0
     have HY:Hid (setB n f (0+1)=true):=by simp only [Hid,setB,hB'];rfl
     have hc0:wr.cell? ⟨g,o,none⟩=some (.int .i64 (f 0)):=by simpa using hck
     clear hB' hck
     go_wp2_with (go_at_call 187;refine(isNode_any b n F _ _ h).mono ?_;rintro e w' ⟨rfl,rfl⟩;rw [hB])
     go_roundg (m - 1)
     case measure=>omega
     case rel=>exact⟨1,by omega,by go_num,HY.out,rfl⟩
    ·obtain ⟨j,rfl⟩:∃j,k=j+1:=⟨k - 1,by omega⟩
     have hcj:=hc j (by omega)
     by_cases hle:f (j+1)≤f j
     ·have HN:Hid (setB n f m=false):=by
       rw [show m=j+1+1+(m - (j+1+1)) by omega]
       apply setB_no
       rw [setB]
       simp
       intro _ _ _
       omega
      clear hB'
      go_wp2_with (go_at_call 187;refine(isNode_any b n F _ _ h).mono ?_;rintro e w' ⟨rfl,rfl⟩;rw [hB])
      go_ret
      exact⟨ret_b HN.out.symm,rfl⟩
     ·have HY:Hid (setB n f (j+1+1)=true):=by
       show setB n f (j+1+1)=true
       rw [setB,hs,hB']
       simp
       omega
      clear hB'
      go_wp2_with (go_at_call 187;refine(isNode_any b n F _ _ h).mono ?_;rintro e w' ⟨rfl,rfl⟩;rw [hB])
      go_roundg (m - (j+2))
      case measure=>omega
      case rel=>exact⟨j+2,by omega,by go_num,HY.out,rfl⟩
  ·have e:k=m:=by omega
   subst e
   go_wp2
   go_ret
   exact⟨ret_b hs.symm,rfl⟩
def turnE (n F:Nat) (f:Nat→Int) (m:Nat) (fr:Bool):Int:=if setB n f m then(if allB F f fr m then 0 else 21)else 22
def turnF (n F:Nat) (f:Nat→Int) (m:Nat) (fr:Bool):Nat:=if setB n f m then(if allB F f fr m then flipF F f m else F)else F
theorem turn_any (b n F g o m cap:Nat) (ao:Option Addr) (f:Nat→Int) (fr:Bool) (w:World) (h:SetIn w b n F) (hao:0<m→ao=some ⟨g,o,none⟩) (hgb:g≠b) (hm:m≤140737488355328)
  (hc:∀j,j<m→w.cell? ⟨g,o+j,none⟩=some (.int .i64 (f j))):
  Calls Tryz.prog 143 #[.pointer (some ⟨b,0,none⟩),.slice ao m cap,.bool fr] w fun e w'=>e=.returned (.int .i64 (turnE n F f m fr))∧SetIn w' b n (turnF n F f m fr)∧w.grownBy w' (some b):=by
 cases hS:setB n f m with
 | false=>
  have e1:turnE n F f m fr=22:=by simp [turnE,hS]
  have e2:turnF n F f m fr=F:=by simp [turnF,hS]
  rw [e1,e2]
  go_enter Tryz.func143,Tryz.ntmps143
  go_wp2_with (go_at_call 171;refine(isSet_any b n F g o m cap ao f _ h hao hm hc).mono ?_;rintro e w' ⟨rfl,rfl⟩;rw [hS])
  go_ret
  exact⟨rfl,h,gr_refl _ _⟩
 | true=>
  have HE:Hid ((allB F f fr m=true→turnE n F f m fr=0∧turnF n F f m fr=flipF F f m)∧(allB F f fr m=false→turnE n F f m fr=21∧turnF n F f m fr=F)):=
   ⟨fun e=>by simp [turnE,turnF,hS,e],fun e=>by simp [turnE,turnF,hS,e]⟩
  go_enter Tryz.func143,Tryz.ntmps143
  go_wp2_with (go_at_call 171;refine(isSet_any b n F g o m cap ao f _ h hao hm hc).mono ?_;rintro e w1 ⟨rfl,rfl⟩;rw [hS])
  go_loopg [15] m (fun gk c wr=>∃k:Nat,k+gk=m∧c=.int .i64 k∧allB F f fr k=true∧wr=w1)
  case atStart=>exact⟨0,by omega,rfl,rfl,rfl⟩
  case round=>
   obtain⟨k,hk,rfl,hs,rfl⟩:=hrel
   by_cases hlt:k<m
   ·have ha:=hao (by omega)
    subst ha
    have hck:=hc k hlt
    cases hB:hasB F (f k)==fr with
    | false=>
     have HN:Hid (allB F f fr m=false):=by
      rw [show m=k+1+(m - (k+1)) by omega]
      apply allB_no
      have:((decide (0≤f k)&&F.testBit (f k).toNat)==fr)=false:=hB
      rw [allB,this];simp
     go_wp2_with (go_at_call 172;refine(has_any b n F _ _ h).mono ?_;rintro e w' ⟨rfl,rfl⟩)
     go_ret
     exact⟨ret_i (HE.out.2 HN.out).1.symm,by rw [(HE.out.2 HN.out).2];exact h,gr_refl _ _⟩
    | true=>
     have HY:Hid (allB F f fr (k+1)=true):=by
      have:((decide (0≤f k)&&F.testBit (f k).toNat)==fr)=true:=hB
      show allB F f fr (k+1)=true
      rw [allB,this,hs];rfl
     go_wp2_with (go_at_call 172;refine(has_any b n F _ _ h).mono ?_;rintro e w' ⟨rfl,rfl⟩)
     go_roundg (m - (k+1))
     case measure=>omega
     case rel=>exact⟨k+1,by omega,by go_num,HY.out,rfl⟩
   ·have e:k=m:=by omega
    subst e
    have hf:=setB_at n f k hS
    have HA:Hid (allB F f fr k=true):=hs
    clear hs hS
    go_wp2_with (go_at_call 173;refine(flipAll_any b n F g o k cap ao f _ h hao hgb hm hc hf).mono ?_;rintro e w2 ⟨rfl,hs2,hg2⟩)
    go_ret
    exact⟨ret_i (HE.out.1 HA.out).1.symm,by rw [(HE.out.1 HA.out).2];exact hs2,hg2⟩
theorem claim_any (b n F g o m cap:Nat) (ao:Option Addr) (f:Nat→Int) (w:World) (h:SetIn w b n F) (hao:0<m→ao=some ⟨g,o,none⟩) (hgb:g≠b) (hm:m≤140737488355328)
  (hc:∀j,j<m→w.cell? ⟨g,o+j,none⟩=some (.int .i64 (f j))):
  Calls Tryz.prog 97 #[.pointer (some ⟨b,0,none⟩),.slice ao m cap] w fun e w'=>e=.returned (.int .i64 (turnE n F f m true))∧SetIn w' b n (turnF n F f m true)∧w.grownBy w' (some b):=by
 go_enter Tryz.func97,Tryz.ntmps97
 go_wp2_with (go_at_call 143;refine(turn_any b n F g o m cap ao f true _ h hao hgb hm hc).mono ?_;rintro e w2 ⟨rfl,hs2,hg2⟩)
 go_ret
 exact⟨rfl,hs2,hg2⟩
theorem give_any (b n F g o m cap:Nat) (ao:Option Addr) (f:Nat→Int) (w:World) (h:SetIn w b n F) (hao:0<m→ao=some ⟨g,o,none⟩) (hgb:g≠b) (hm:m≤140737488355328)
  (hc:∀j,j<m→w.cell? ⟨g,o+j,none⟩=some (.int .i64 (f j))):
  Calls Tryz.prog 110 #[.pointer (some ⟨b,0,none⟩),.slice ao m cap] w fun e w'=>e=.returned (.int .i64 (turnE n F f m false))∧SetIn w' b n (turnF n F f m false)∧w.grownBy w' (some b):=by
 go_enter Tryz.func110,Tryz.ntmps110
 go_wp2_with (go_at_call 143;refine(turn_any b n F g o m cap ao f false _ h hao hgb hm hc).mono ?_;rintro e w2 ⟨rfl,hs2,hg2⟩)
 go_ret
 exact⟨rfl,hs2,hg2⟩
theorem full_bit (n k:Nat):(2^n - 1).testBit k=decide (k<n):=Nat.testBit_two_pow_sub_one n k
theorem full_succ (k:Nat):(2^k - 1) ^^^ 2^k=2^(k+1) - 1:=by
 apply Nat.eq_of_testBit_eq
 intro j
 rw [Nat.testBit_xor,full_bit,full_bit,Nat.testBit_two_pow]
 by_cases h:j<k
 ·simp [h,show ¬k=j by omega,show j<k+1 by omega]
 ·by_cases e:k=j
  ·subst e;simp
  ·simp [h,e,show ¬j<k+1 by omega]
theorem new_set (n:Nat) (w:World) (h1:1≤n) (h2:n≤256):SetIn (w.alloc (.cells #[.int .i64 n,.int .u64 0,.int .u64 0,.int .u64 0,.int .u64 0] 193)) w.heap.size n 0:=by
 exact⟨by rw [heap_alloc_new];simp [setCells,wd],h1,h2,Nat.two_pow_pos n⟩
theorem new_yes (n:Nat) (w:World) (h1:1≤n) (h2:n≤256):Calls Tryz.prog 93 #[.int .i64 n] w fun e w'=>e=.returned (.tuple #[.pointer (some ⟨w.heap.size,0,none⟩),.int .i64 0])∧SetIn w' w.heap.size n (2^n - 1)∧Below w.heap.size w w':=by
 have HS:Hid (SetIn (w.alloc (.cells #[.int .i64 n,.int .u64 0,.int .u64 0,.int .u64 0,.int .u64 0] 193)) w.heap.size n 0):=new_set n w h1 h2
 go_enter Tryz.func93,Tryz.ntmps93
 go_wp2
 go_loopg [16] n (fun gk c wr=>∃k:Nat,k+gk=n∧c=.int .i64 k∧SetIn wr w.heap.size n (2^k - 1)∧Below w.heap.size w wr)
 case atStart=>exact⟨0,by omega,rfl,HS.out,(Below.refl _ _).alloc (Nat.le_refl _) _⟩
 case round=>
  obtain⟨k,hk,rfl,hs,hb⟩:=hrel
  by_cases hlt:k<n
  ·go_wp2_with (go_at_call 141;refine(flip_any w.heap.size n _ k _ hs hlt).mono ?_;rintro e w' ⟨rfl,hs',hg'⟩;rw [full_succ]at hs')
   go_roundg (n - (k+1))
   case measure=>omega
   case rel=>exact⟨k+1,by omega,by go_num,hs',hb.grown hg' hb.size (fun j hj=>by simp at hj;omega)⟩
  ·have e:k=n:=by omega
   subst e
   go_wp2
   go_ret2
   exact⟨rfl,hs,hb⟩
end Nd
theorem gr_chg {w w':World} {b:Nat} (h:w.grownBy w' (some b)):Chg (fun i=>i=b) w w':=⟨h.os,h.tape,h.output,h.size,fun i hi hne=>h.block i hi (fun e=>hne (Option.some.inj e))⟩
end Go.Proofs.YtceoibfliggalaaGreatDoor

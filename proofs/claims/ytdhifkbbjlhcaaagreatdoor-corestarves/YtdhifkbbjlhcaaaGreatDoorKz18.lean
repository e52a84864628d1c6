import Derived.WalkMore
import Derived.Test.YtdhifkbbjlhcaaaGreatDoorKz11
import Derived.Lib.Strings
import Derived.WalkSmall
import Derived.Laws.Panics
import Derived.Lib.LaidTab
set_option maxRecDepth 20000
set_option maxHeartbeats 4000000
set_option linter.defProp false
namespace Go.Proofs.YtdhifkbbjlhcaaaGreatDoor
open Go.Proofs.Tryz
variable {g j k:Nat} {v:Value} {w w':ay} {x:UInt8}
section
open Go.RowKit Wd Ld
def Tab (w:ay):Prop:=∀j,j<32->w.cell? ⟨1,j,none⟩=some (O (R j:Nat))
theorem Tab.below (h:Z w w') (hT:Tab w):Tab w':=fun j hj=>aQ h (hT j hj)
namespace Ld
def agE (k:Nat) (hk:k<32):(4294967296:Int) / 2^(k+1)=((2^(31 - k):Nat):Int):=by
 have e:(4294967296:Nat) / 2^(k+1)=2^(31 - k):=by rw[show (4294967296:Nat)=2^(31 - k)*2^(k+1) by rw[← Nat.pow_add,show 31 - k+(k+1)=32 by omega]];grind[Nat.mul_div_cancel]
 grind
theorem alu (f k:Nat):f &&& 2^k=if f.testBit k=true then 2^k else 0:=by
 apply JM;grind
theorem aah (f k:Nat) (hf:f<4294967296) (hk:k<32):bits .and .u64 (f:Int) (4294967296 / 2^(k+1))=(if f / 2^(31 - k) % 2=1 then((2^(31 - k):Nat):Int)else 0):=by
 have h31:2^(31 - k)<=2^31:=Xp ak;rw[agE k hk];refine(Nz f (2^(31 - k)) ak ak).trans ?_;grind[alu]
def alv {f k:Nat} (hf:f<4294967296) (hk:k<32) (h:f / 2^(31 - k) % 2=1):(bits .and .u64 (f:Int) (4294967296 / 2^(k+1)) != 0)=true:=by
 grind[aah]
def aql {f k:Nat} (hf:f<4294967296) (hk:k<32) (h:¬f / 2^(31 - k) % 2=1):(bits .and .u64 (f:Int) (4294967296 / 2^(k+1)) != 0)=false:=by
 grind[aah]
def ab1 {f k:Nat} (h:f / 2^(31 - k) % 2=1):bY ((steps f k:Nat)*(R k:Nat):Int)=(steps f (k+1):Nat):=by
 grind[steps,bY]
def agF {f k:Nat} (h:¬f / 2^(31 - k) % 2=1):steps f (k+1)=steps f k:=by
 grind[steps]
def XY (f k:Nat) (hk:k<=32):Word (steps f k:Nat):=by
 grind[NQ,Word]
def aqm (k:Nat) (hk:k<32):Word (R k:Nat):=by
 grind[Ta,Word]
end Ld
def Ur (f:Nat) (hf:f<4294967296) (w:ay) (hT:Tab w):Calls prog 211 #[O f] w fun e w'=>e=.returned (O (steps f 32:Nat))/\Z w w':=by
 go_enter func211,ntmps211;go_wp2;go_loopw [3,5] (fun r i wr=>∃k:Nat,k<=32/\i=J k/\r=O (steps f k:Nat)/\Z w wr) (fun _ i _=>32 - (intOf i).toNat)
 case atStart=>exact⟨0,by omega,rfl,rfl,aI _ _⟩
 case round=>
  obtain⟨k,hk,rfl,rfl,hb⟩:=hrel;by_cases hlt:k<32
  ·by_cases hbit:f / 2^(31 - k) % 2=1
   ·have ht:=alv hf hlt hbit;have hc:=Tab.below hb hT k hlt;have es:=ab1 hbit;have ES:Hid _:=es;have HB:Hid _:=hbit;clear es hbit;go_wp2_with (go_at_call 173;refine(nG _ _ (XY f k hk) (aqm k hlt) _).mono ?_;rintro e w1 ⟨rfl,hb1⟩)
    rename_i K hK;change K (Act.put _ (some 19) (O (bY ((steps f k:Nat)*(R k:Nat):Int)))) w1;go_wp2;go_roundw
    case rel=>refine⟨k+1,by omega,by go_num,by rw[← ES.out],hb.trans (hb1.mono hb.size)⟩
    case measure=>simp[intOf];omega
   ·have ht:=aql hf hlt hbit;have ES:Hid _:=agF hbit;clear hbit;go_wp2;go_roundw
    case rel=>exact⟨k+1,by omega,by go_num,by rw[ES.out],hb⟩
    case measure=>simp[intOf];omega
  ·obtain rfl:k=32:=ak;exact FK
namespace Ld
def ab2 {e:Nat} (h:63<=e / 4294967296):nA e=0:=by grind[nA]
def ab3 {e:Nat} (h:¬63<=e / 4294967296):((nA e:Nat):Int)=((steps (e % 4294967296) 32:Nat):Int) / 2^(e / 4294967296):=by
 grind[nA]
end Ld
def Us (e:Nat) (he:e<18446744073709551616) (w:ay) (hT:Tab w):Calls prog 165 #[O e] w fun r w'=>r=.returned (O (nA e:Nat))/\Z w w':=by
 have hq:(e:Int) / 4294967296=((e / 4294967296:Nat):Int):=ak;have hm:(e:Int) % 4294967296=((e % 4294967296:Nat):Int):=ak;have hn:e / 4294967296<4294967296:=ak;have hf:e % 4294967296<4294967296:=Nat.mod_lt _ aT;by_cases h:63<=e / 4294967296
 ·rw[ab2 h];clear hf hm;generalize e / 4294967296=n at *;go_enter func165,ntmps165;go_wp2;go_ret;exact⟨rfl,aI _ _⟩
 ·rw[ab3 h];generalize e / 4294967296=n at *;generalize e % 4294967296=f at *;go_enter func165,ntmps165;go_wp2_with (go_at_call 211;refine(Ur f hf _ hT).mono ?_;rintro e w1 ⟨rfl,hb1⟩)
  go_ret;exact⟨rfl,hb1⟩
def aqn (p h:Int):Prop:=p<1\/1048576<p\/h<1\/1073741824<h
def QF (p h:Int):Nat:=(p*4294967296 / h).toNat
def chV (u n:Int):Int:=if n<0 then u else jF (u+jF (n*4294967296))
theorem agG {p h:Int} (hp:1<=p) (hh:1<=h):p*4294967296 / h=(QF p h:Int):=by
 have:0<=p*4294967296 / h:=uG ak ak;unfold QF;omega
theorem agH {p h:Int} (hp:1<=p) (hp':p<=1048576) (hh:1<=h):QF p h<=4503599627370496:=by
 have h1:p*4294967296 / h<=p*4294967296:=GX _ ak;grind[agG]
def Gb (e:Nat):Word (nA e:Nat):=by
 grind[DX,Word]
def ab4 {u f:Int} (hu:Word u) (hf:Word f):Word (wE u f):=⟨G9 hu hf,by have:=Jf (f:=f) hu;have:=hu.2;omega⟩
def aqo {p h:Int} (hp:1<=p) (hp':p<=1048576) (hh:1<=h):dnV (p*4294967296) h=(QF p h:Nat):=by
 grind[agH,agG,dnV,jF]
def Ut {p h:Int} (hb:¬aqn p h) (w:ay) (hT:Tab w):
  Calls prog 133 #[J p,J h] w fun e w'=>e=.returned (.tuple #[O (nA (QF p h):Nat),J 0])/\Z w w':=by
 have h1:¬p<1:=fun h=>hb (.inl h);have h2:¬1048576<p:=fun h=>hb (.inr (.inl h));have h3:¬h<1:=fun h=>hb (.inr (.inr (.inl h)));have h4:¬1073741824<h:=fun h=>hb (.inr (.inr (.inr h)));have e5:=agH (p:=p) (h:=h) ak ak ak;have e4:=aqo (p:=p) (h:=h) ak ak ak;have e1:IntKind.u64.wrap p=p:=by rw[d_];omega
 have e2:IntKind.u64.wrap h=h:=by rw[d_];omega
 have cd:=Hl p h ⟨by omega,by omega⟩ ⟨by omega,by omega⟩;rw[e4]at cd;clear e4;go_enter func133,ntmps133;go_wp2_with fail
 refine(cd _).mono ?_;rintro e w1 ⟨rfl,b1⟩;go_wp2_with fail
 refine(Us (QF p h) ak _ (Tab.below b1 hT)).mono ?_;rintro e w2 ⟨rfl,b2⟩;go_wp2;go_ret2
 exact⟨rfl,b1.trans (b2.mono b1.size)⟩
def XZ {u n:Int} (hu:Word u) (hn:n<9223372036854775808) (w:ay):
  Calls prog 225 #[O u,J n] w fun e w'=>e=.returned (O (chV u n))/\Z w w':=by
 have ho:Word (ofV n):=by
  unfold ofV;split
  ·exact ⟨by omega,by omega⟩
  ·exact zy ak
 have hc:jF (u+ofV n)=chV u n:=by
  unfold chV ofV;split
  ·obtain ⟨h0,h1⟩:=hu;rw[Int.add_zero];unfold jF;rw[aJ ak]
  ·rfl
 have ca:=Uf u (ofV n) hu ho;rw[hc]at ca;clear hc;go_enter func225,ntmps225;go_wp2_with fail
 refine(Z9 n hn _).mono ?_;rintro e w1 ⟨rfl,b1⟩;go_wp2_with fail
 refine(ca _).mono ?_;rintro e w2 ⟨rfl,b2⟩;go_wp2;go_ret;exact⟨rfl,b1.trans (b2.mono b1.size)⟩
def agI {u f:Int} (hu:Word u) (hf:Word f) (w:ay):
  Calls prog 227 #[O u,O f] w fun e w'=>e=.returned (O (wE u f))/\Z w w':=by
 go_enter func227,ntmps227;go_wp2_with fail
 refine(af5 u f hu hf _).mono ?_;exact Xi
end
namespace V8
open Go.RowKit
abbrev Bs:=List UInt8
def iR (c:UInt8):Bool:=(decide (97<=c.toNat)&&decide (c.toNat<=122))||(decide (65<=c.toNat)&&decide (c.toNat<=90))||(decide (48<=c.toNat)&&decide (c.toNat<=57))||c.toNat==45||c.toNat==95
def Dc (s:Bs):Bool:=decide (1<=s.length)&&decide (s.length<=32)&&s.all iR
structure Cm where
 kind:Int
 nm:Bs
 pa:Bs
 sh:Int
 nd:Int
 lm:Int
 jb:Int
 tk:Int
def aoZ (a b:Cm):Decidable (a=b):=
 decidable_of_iff (a.kind=b.kind/\a.nm=b.nm/\a.pa=b.pa/\a.sh=b.sh/\a.nd=b.nd/\a.lm=b.lm/\a.jb=b.jb/\a.tk=b.tk) (by
  cases a
  cases b;simp)
def Uu:Cm:=⟨0,[],[],0,0,0,0,0⟩
def words:List (Bs×Bs):= [
 ([115,117,98,109,105,116],[78,110,108]),
 ([99,97,110,99,101,108],[106]),
 ([99,111,109,112,108,101,116,101],[106]),
 ([116,105,99,107],[116]),
 ([97,99,99,111,117,110,116],[78,80,104]),
 ([115,104,97,114,101,115],[78,104]),
 ([109,111,118,101],[78,80]),
 ([99,108,111,115,101],[78]),
 ([106,111,98],[106]),
 ([113,117,101,117,101],[]),
 ([117,115,97,103,101],[78]),
 ([110,111,100,101,115],[]),
 ([99,111,110,102,105,103],[])]
def kM (k:Int):Bs×Bs:=if 1<=k/\k<=13 then words.getD (k - 1).toNat ([],[])else([],[])
def QG (x:UInt8):Bool:=x==78||x==80
def Uv (c:Cm) (x:UInt8):Bs:=if x=78 then c.nm else c.pa
def agJ (c:Cm) (x:UInt8) (s:Bs):Cm:=if x=78 then {c with nm:=s}else {c with pa:=s}
def X3 (c:Cm) (x:UInt8):Int:=if x=104 then c.sh else if x=110 then c.nd else if x=108 then c.lm else if x=106 then c.jb else c.tk
def agK (c:Cm) (x:UInt8) (n:Int):Cm:=if x=104 then {c with sh:=n}else if x=110 then {c with nd:=n}else if x=108 then {c with lm:=n}else if x=106 then {c with jb:=n}else {c with tk:=n}
def oU:Cm->Bs->Option Cm
 | c,[]=>some c
 | c,x::f=>
  if QG x=true then(if Dc (Uv c x)=true then oU (agJ c x []) f else none)
  else if X3 c x<0 then none else oU (agK c x 0) f
def tZ (c:Cm):Int:=
 if (kM c.kind).1= []then 84
 else match oU {c with kind:=0} (kM c.kind).2 with
  | none=>84
  | some r=> @ite Int (r=Uu) (aoZ r Uu) 0 84
def str (s:Bs):ByteArray:=⟨s.toArray⟩
def cmV (c:Cm):Value:=.agg #[J c.kind,.string (str c.nm),.string (str c.pa),J c.sh,J c.nd,J c.lm,J c.jb,J c.tk]
def Gc (x:UInt8):Nat:=if x=78 then 1 else 2
def yQ (x:UInt8):Nat:=if x=104 then 3 else if x=110 then 4 else if x=108 then 5 else if x=106 then 6 else 7
def j_ (s:ByteArray):Bool:=decide (1<=s.size)&&decide (s.size<=32)&&s.data.toList.all iR
def zh {s:ByteArray} (h:j<s.size):(s.data.toList.drop j).all iR=(iR s[j]&&(s.data.toList.drop (j+1)).all iR):=by
 have hj:j<s.data.toList.length:=by simp_all
 rw[tu hj,List.all_cons];rfl
def agL (s:Bs):j_ (str s)=Dc s:=by
 unfold j_ Dc str;rw[Lib.size_eq]
def wH {w w1 w2:ay} {vs:List Value} {n B e sz:Nat} (h:Z w w1) (hr:w1.ownsRow B e sz v n vs) (hB:w.heap.size<=B) (hg:w1.grownBy w2 v.ownBlock):Z w w2:=
 h.grown hg h.size (fun k e=>by have:=(hr.lt k e).1;omega)
def QH (c:Cm):Array Value:= #[J c.kind,.string (str c.nm),.string (str c.pa),J c.sh,J c.nd,J c.lm,J c.jb,J c.tk]
def oq (w:ay) (g:Nat) (c:Cm):Prop:=w.heap[g]?=some (.cells (QH c) 45 (0,0))
def oq.new (w:ay) (c:Cm):oq (w.alloc (.cells (QH c) 45)) w.heap.size c:=aK w _
theorem oq.below {c:Cm} (h:oq w g c) (b:Z w w'):oq w' g c:=(b.block g (aS.1 h).1).trans h
theorem oq.cells {c:Cm} (h:oq w g c):(w.cell? ⟨g,0,none⟩=some (J c.kind)/\w.cell? ⟨g,1,none⟩=some (.string (str c.nm))/\w.cell? ⟨g,2,none⟩=some (.string (str c.pa))/\w.cell? ⟨g,3,none⟩=some (J c.sh)/\w.cell? ⟨g,4,none⟩=some (J c.nd)/\w.cell? ⟨g,5,none⟩=some (J c.lm)/\w.cell? ⟨g,6,none⟩=some (J c.jb)/\w.cell? ⟨g,7,none⟩=some (J c.tk))/\∀k,w.frozen? ⟨g,k,none⟩=false:=by
 unfold oq at h;constructor
 ·unfold World.cell?;simp[h,QH]
 grind[World.frozen?]
def oq.text {c:Cm} (h:oq w g c) (x:UInt8):w.cell? ⟨g,Gc x,none⟩=some (.string (str (Uv c x))):=by
 obtain⟨⟨_,h1,h2,_⟩,_⟩:=h.cells;grind[Gc,Uv]
def oq.num {c:Cm} (h:oq w g c) (x:UInt8):w.cell? ⟨g,yQ x,none⟩=some (J (X3 c x)):=by
 obtain⟨⟨_,_,_,h3,h4,h5,h6,h7⟩,_⟩:=h.cells;grind[yQ,X3]
def oq.alx {c:Cm} (h:oq w g c) (x:UInt8) (s:Bs):oq (w.setCell ⟨g,Gc x,none⟩ (.string (str s))) g (agJ c x s):=by
 unfold oq at *;unfold Gc agJ;split
 ·exact bS w g 1 _ 45 _ h
 ·exact bS w g 2 _ 45 _ h
def oq.aqp {c:Cm} (h:oq w g c) (x:UInt8) (n:Int):oq (w.setCell ⟨g,yQ x,none⟩ (J n)) g (agK c x n):=by
 unfold oq at *;unfold yQ agK;split
 ·exact bS w g 3 _ 45 _ h
 ·split
  ·exact bS w g 4 _ 45 _ h
  ·split
   ·exact bS w g 5 _ 45 _ h
   ·split
    ·exact bS w g 6 _ 45 _ h
    ·exact bS w g 7 _ 45 _ h
def Uw (k:Int):(kM k).2.length<=3:=by
 unfold kM;split
 ·next h=>
  have hr:k=1\/k=2\/k=3\/k=4\/k=5\/k=6\/k=7\/k=8\/k=9\/k=10\/k=11\/k=12\/k=13:=ak;rcases hr with rfl | rfl | rfl | rfl | rfl | rfl | rfl | rfl | rfl | rfl | rfl | rfl | rfl<;>decide
 grind
def aly (o:Option Cm):Int:=match o with
 | none=>84
 | some r=> @ite Int (r=Uu) (aoZ r Uu) 0 84
theorem agM (s:Bs):(str s).toList=s:=by rw[Lib.toList_data];rfl
def agN (kd:Int) (nm pa:Bs) (sh nd lm jb tk:Int):aly (some ⟨kd,nm,pa,sh,nd,lm,jb,tk⟩)=if kd=0/\(str nm).toList= []/\(str pa).toList= []/\sh=0/\nd=0/\lm=0/\jb=0/\tk=0 then 0 else 84:=by
 grind[aly,Uu,agM]
def X4 {d:Cm} {F:Bs} (h:F[j]?=some x) (hn:QG x=true):oU d (F.drop j)=if Dc (Uv d x)=true then oU (agJ d x []) (F.drop (j+1))else none:=by
 grind[tu,oU]
def ab5 {d:Cm} {F:Bs} (h:F[j]?=some x) (hn:QG x=false):oU d (F.drop j)=if X3 d x<0 then none else oU (agK d x 0) (F.drop (j+1)):=by
 grind[tu,oU]
def BG (x:UInt8):Nat:=if QG x=true then Gc x else yQ x
def Dh (k i:Nat):Int:=match (kM (k:Int)).2[i]? with
 | none=>0
 | some x=>(BG x:Nat)
structure Tab (w:ay):Prop where
 word:∀k:Nat,k<14->w.cell? ⟨0,k*4,none⟩=some (.string (str (kM (k:Int)).1))
 fld:∀k i:Nat,k<14->i<3->w.cell? ⟨0,k*4+1+i,none⟩=some (J (Dh k i))
theorem kept {p:Addr} (b:Z w w') (h:w.cell? p=some v):w'.cell? p=some v:=(b.cell (aU w _ h)).trans h
theorem Tab.below (b:Z w w') (h:Tab w):Tab w' where
 word k hk:=kept b (h.word k hk)
 fld k i hk hi:=kept b (h.fld k i hk hi)
def SN (c:UInt8) (w:ay):Calls prog 141 #[.int .u8 c.toNat] w fun e w'=>e=.returned (.bool (iR c))/\w=w':=by
 have⟨b,hb⟩:=aZ c.toNat;have⟨ob,hob⟩:=aZ (iR c);have Bv:ob=((decide (97<=b)&&decide (b<=122))||(decide (65<=b)&&decide (b<=90))||(decide (48<=b)&&decide (b<=57))||b==45||b==95):=by rw[← hob,<-hb];rfl
 rw[hb,hob];clear hb hob;have hc:(97<=b/\b<=122)\/(122<b)\/(b=95)\/(91<=b/\b<=96/\b≠95)\/(65<=b/\b<=90)\/(58<=b/\b<=64)\/(48<=b/\b<=57)\/(b=45)\/(b<48/\b≠45):=ak;rcases hc with h | h | h | h | h | h | h | h | h
 ·have ok:ob=true:=by rw[Bv];simp;omega
  clear Bv;subst ok;have f0:(97:Int)<=b:=ak;have f1:(b:Int)<=122:=ak;exact Cy
 ·have ok:ob=false:=by rw[Bv];simp;omega
  clear Bv;subst ok;have f0:(97:Int)<=b:=ak;have f1:¬(b:Int)<=122:=ak;have f2:(65:Int)<=b:=ak;have f3:¬(b:Int)<=90:=ak;have f4:(48:Int)<=b:=ak;have f5:¬(b:Int)<=57:=ak;have f6:((b:Int)==45)=false:=fE;have f7:((b:Int)==95)=false:=fE;exact Cy
 ·exact aof
 ·have ok:ob=false:=by rw[Bv];simp;omega
  clear Bv;subst ok;have f0:¬(97:Int)<=b:=ak;have f1:(65:Int)<=b:=ak;have f2:¬(b:Int)<=90:=ak;have f3:(48:Int)<=b:=ak;have f4:¬(b:Int)<=57:=ak;have f5:((b:Int)==45)=false:=fE;have f6:((b:Int)==95)=false:=fE;exact Cy
 ·have ok:ob=true:=by rw[Bv];simp;omega
  clear Bv;subst ok;have f0:¬(97:Int)<=b:=ak;have f1:(65:Int)<=b:=ak;have f2:(b:Int)<=90:=ak;exact Cy
 ·have ok:ob=false:=by rw[Bv];simp;omega
  clear Bv;subst ok;have f0:¬(97:Int)<=b:=ak;have f1:¬(65:Int)<=b:=ak;have f2:(48:Int)<=b:=ak;have f3:¬(b:Int)<=57:=ak;have f4:((b:Int)==45)=false:=fE;have f5:((b:Int)==95)=false:=fE;exact Cy
 ·have ok:ob=true:=by rw[Bv];simp;omega
  clear Bv;subst ok;have f0:¬(97:Int)<=b:=ak;have f1:¬(65:Int)<=b:=ak;have f2:(48:Int)<=b:=ak;have f3:(b:Int)<=57:=ak;exact Cy
 ·exact aof
 ·have ok:ob=false:=by rw[Bv];simp;omega
  clear Bv;subst ok;have f0:¬(97:Int)<=b:=ak;have f1:¬(65:Int)<=b:=ak;have f2:¬(48:Int)<=b:=ak;have f3:((b:Int)==45)=false:=fE;have f4:((b:Int)==95)=false:=fE;exact Cy
def FZ (s:ByteArray) (w:ay):Calls prog 99 #[.string s] w fun e w'=>e=.returned (.bool (j_ s))/\w=w':=by
 unfold j_;by_cases h1:s.size<1
 ·have e:decide (1<=s.size)=false:=dH ak;rw[e];go_enter func99,ntmps99;exact mY
 by_cases h2:32<s.size
 ·have e:decide (s.size<=32)=false:=dH ak;rw[e];have h1':¬(s.size:Int)<1:=ak;go_enter func99,ntmps99;go_wp2;go_ret;exact⟨by simp,rfl⟩
 have e1:decide (1<=s.size)=true:=dS ak;have e2:decide (s.size<=32)=true:=dS ak;rw[e1,e2,rO,rO];have⟨q,hq⟩:=aZ s.size;have h1':¬(s.size:Int)<1:=ak;have h2':¬(32:Int)<s.size:=ak;go_enter func99,ntmps99;exact atq
def X6 (s:Bs) (w:ay):Calls prog 99 #[.string (str s)] w fun e w'=>e=.returned (.bool (Dc s))/\w=w':=by
 rw[← agL];exact FZ (str s) w
def X7 (x:UInt8) (hx:QG x=true) (g:Nat) (w:ay):Calls prog 98 #[.pointer (some ⟨g,0,none⟩),J (BG x)] w fun e w'=>e=.returned (.tuple #[.pointer (some ⟨g,Gc x,none⟩),.pointer none])/\w'=w:=by
 unfold BG;rw[aJ hx];unfold Gc;by_cases h:x=78
 ·rw[aJ h];go_enter func98,ntmps98;exact FI
 ·rw[au h];go_enter func98,ntmps98;exact FI
def ab6 (x:UInt8) (hx:QG x=false) (g:Nat) (w:ay):Calls prog 98 #[.pointer (some ⟨g,0,none⟩),J (BG x)] w fun e w'=>e=.returned (.tuple #[.pointer none,.pointer (some ⟨g,yQ x,none⟩)])/\∃q,w'=w.drewN q:=by
 unfold BG;rw[au (by simp[hx])];have h:yQ x=3\/yQ x=4\/yQ x=5\/yQ x=6\/yQ x=7:=by
  unfold yQ;repeat' split
  all_goals omega
 clear hx;rcases h with h | h | h | h | h<;>rw[h]<;>clear h
 all_goals
  go_enter func98,ntmps98
  go_wp2_with fail
  go_quiet (fail)
  go_wp2
  go_ret2
  exact⟨rfl,nq,rfl⟩
def jB (w:ay) (n:Nat):Z w (w.drewN n):=⟨rfl,rfl,rfl,aC _,fun _ _=>rfl⟩
def ab7 (hx:QG x=true) {c:Cm} (hc:oq w g c):
  Calls prog 54 #[.pointer (some ⟨g,0,none⟩),J (BG x)] w fun e w'=>e=.returned (.bool (Dc (Uv c x)))/\w'=w.setCell ⟨g,Gc x,none⟩ (.string (str [])):=by
 have hp:=X7 x hx g w;have h1:=hc.text x;have zf:=hc.cells.2 (Gc x);have hv:=X6 (Uv c x);generalize Uv c x=p at *;generalize Gc x=k at *;generalize BG x=f at *;go_enter func54,ntmps54;go_wp2_with fail
 refine hp.mono ?_;rintro e w1 ⟨rfl,rfl⟩;go_wp2_with fail
 refine(hv _).mono ?_;rintro e w2 ⟨rfl,rfl⟩;exact mY
def agO (hx:QG x=false) {c:Cm} (hc:oq w g c):
  Calls prog 54 #[.pointer (some ⟨g,0,none⟩),J (BG x)] w fun e w'=>e=.returned (.bool (decide (0<=X3 c x)))/\∃q,w'=(w.setCell ⟨g,yQ x,none⟩ (J 0)).drewN q:=by
 have hp:=ab6 x hx g w;have h1:=hc.num x;have zf:=hc.cells.2 (yQ x);generalize X3 c x=n at *;generalize yQ x=k at *;generalize BG x=f at *;go_enter func54,ntmps54;go_wp2_with fail
 refine hp.mono ?_;rintro e w1 ⟨rfl,q,rfl⟩;go_wp2;go_ret;exact⟨rfl,q,rfl⟩
def KV (k:Int) (w:ay):Calls prog 52 #[J k] w fun e w'=>e=.returned (.bool (decide (1<=k)&&decide (k<=13)))/\w=w':=by
 by_cases h:1<=k
 ·by_cases h':k<=13
  ·go_enter func52,ntmps52;go_wp2;go_ret;exact⟨by simp[h,h'],rfl⟩
  ·go_enter func52,ntmps52;go_wp2;go_ret;exact⟨by simp[h'],rfl⟩
 ·go_enter func52,ntmps52;go_wp2;go_ret;exact⟨by simp;omega,rfl⟩
def Em (l:Bs):List Value:=l.map fun x=>J (BG x)
def Tryz.akD:(prog.info? 3).map (fun i=>(i.zero,i.size,i.bytes))=some (some (J 0),1,8):=aF
def aai (f:Nat->Int) (hj:j<3) (w:ay):(Instr.index 149 (.agg #[J (f 0),J (f 1),J (f 2)]) (J j)).run prog w=.ok (J (f j)) w:=by
 obtain rfl | rfl | rfl:j=0\/j=1\/j=2:=ak
 all_goals simp[Instr.index,rM underlying149,asIntOf,go_sem]
def X8 (P:Bs) (x:UInt8):Em (P++ [x])=Em P++ [J (BG x:Nat)]:=by simp[Em]
def agP (x:UInt8):1<=BG x:=by
 grind[BG,Gc,yQ]
def agQ {k i:Nat} (h:(kM (k:Int)).2[i]?=some x):Dh k i=(BG x:Nat):=by unfold Dh;rw[h]
def agR {k i:Nat} (h:(kM (k:Int)).2[i]?=none):Dh k i=0:=by unfold Dh;rw[h]
def X9 (k:Nat) (h1:1<=k) (h2:k<=13) (w:ay) (hT:Tab w):Calls prog 53 #[J k] w fun e w'=>∃v,e=.returned v/\w'.ownsRow w.heap.size 3 1 v (kM (k:Int)).2.length (Em (kM (k:Int)).2)/\Z w w':=by
 have⟨i0,hi0,hz0,hz1,hz2⟩:=fA Tryz.akD;have c0:=hT.fld k 0 ak ak;have c1:=hT.fld k 1 ak ak;have c2:=hT.fld k 2 ak ak;have hfl:=Uw (k:Int);have HS:Hid (∀i x,(kM (k:Int)).2[i]?=some x->Dh k i=(BG x:Nat)):=fun i x h=>agQ h;have HN:Hid (∀i,(kM (k:Int)).2[i]?=none->Dh k i=0):=fun i h=>agR h;generalize (kM (k:Int)).2=F at *;have k1:(0:Int)<=k:=ak;have k2:(k:Int)<14:=ak;obtain⟨f,hf⟩:∃f,f=Dh k:=⟨_,rfl⟩;rw[← hf]at c0 c1 c2 HS HN;clear hf hT;go_enter func53,ntmps53;go_wp2;clear c0 c1 c2;go_loopg [3,10] 3 (fun gk v p wr=>∃(j:Nat) (u:Value),j+gk=3/\p=J j/\u=v/\wr.ownsRow w.heap.size 3 1 u (F.take j).length (Em (F.take j))/\Z w wr)
 case atStart=>exact⟨0,_,by omega,rfl,rfl,l8 w _ 3 1,aI _ _⟩
 case round=>
  obtain⟨j,u,hj,rfl,rfl,hrow,hb⟩:=hrel;have hz:=hb.size;by_cases hlt:j<3
  ·have hlt':(j:Int)<3:=ak;have⟨o,ho⟩:=aZ (F[j]?);have htk:F.take (j+1)=F.take j++o.toList:=(by rw[kT,ho]);have htl:(F.take j).length<=3:=fE
   cases o with
   | none=>
    have hv0:(f j==0)=true:=by rw[HN.out j ho];rfl
    have HR:Hid (wr.ownsRow w.heap.size 3 1 u (F.take (j+1)).length (Em (F.take (j+1)))):=by rw[htk,show F.take j++(none:Option UInt8).toList=F.take j by simp];exact hrow
    have HB:Hid _:=hb;have hix:=aai f hlt;clear ho htk hrow htl hb;go_wp2;go_roundg (3 - (j+1))
    case measure=>omega
    case rel=>exact⟨j+1,u,by omega,by go_num,rfl,HR.out,HB.out⟩
   | some x=>
    have hv:=HS.out j x ho;have hv0:(f j==0)=false:=(by rw[hv,beq_eq_false_iff_ne];have:=agP x;omega);have HR:Hid (F.take (j+1)=F.take j++ [x]):=htk;have HV:Hid _:=hv;have HB:Hid _:=hb;generalize F.take j=P at *;have hnc:=Co wr (J (f j)) 3;have hix:=aai f hlt;clear ho htk hb hv;go_wp2_with (at_builtin;refine JI _ rfl (.tmp 15) (.tmp 17) 36 rfl w.heap.size 3 i0 _ 1 8 underlying36 hi0 hz0 hz1 hz2 rfl aT u P.length (Em P) rfl (hrow.alloc _) ⟨wr.heap.size,0,none⟩ 1 1 [J (f j)] rfl rfl hnc (fun u hu=>by simp at hu;subst hu;rfl) ?_ ?_ ?_ ?_;exact(bM (m:=35184372088832) ak aT);omega;(simp;omega);intro v' w5 hown hgr _ _)
    go_roundg (3 - (j+1))
    case measure=>omega
    case rel=>refine⟨j+1,v',by omega,by go_num,rfl,?_,wH (HB.out.alloc hz _) (hrow.alloc _) (aC _) hgr⟩;rw[HR.out,X8,<-HV.out];simpa using hown
  ·obtain rfl:j=3:=ak;have e:=xH hfl;rw[e]at hrow;go_wp2;go_ret;exact⟨u,rfl,hrow,hb⟩
def Af (w:ay) (o:Nat) (F:Bs):Prop:=∀(j:Nat) (x:UInt8),F[j]?=some x->w.cell? ⟨o,j,none⟩=some (J (BG x:Nat))
theorem Af.below {o:Nat} {F:Bs} (h:Af w o F) (b:Z w w'):Af w' o F:=fun j x hx=>kept b (h j x hx)
def Af.far {o g k:Nat} {F:Bs} (h:Af w o F) (hn:o≠g):Af (w.setCell ⟨g,k,none⟩ v) o F:=fun j x hx=>(World.cell?_setCell_far w ⟨g,k,none⟩ ⟨o,j,none⟩ v (fun e=>hn e.symm)).trans (h j x hx)
def agS {B:Nat} {F:Bs} (h:w.ownsRow B 3 1 v F.length (Em F)):∃ao cap o,v=.slice ao F.length cap/\(0<F.length->ao=some ⟨o,0,none⟩)/\B<=o/\Af w o F:=by
 have h':=h;rcases h.2 with⟨e0,e1⟩ | ⟨o,cap,cur,rfl,hb,hg,_⟩
 ·refine ⟨none,0,B,by grind,fun hp=>by omega,aC _,fun j x hx=>?_⟩;grind
 ·refine ⟨some ⟨o,0,none⟩,cap,o,rfl,fun _=>rfl,hb,fun j x hx=>?_⟩;have hj:=(bO.1 hx).1;rw[h'.cellAt j ak];simp[Em,hx]
def agT {k:Int} (h:¬(1<=k/\k<=13)):kM k=([],[]):=by grind[kM]
def alz (h:1<=k/\k<=13):(kM (k:Int)).1≠ []:=by
 have:∀k:Fin 13,(kM ((k.val+1:Nat):Int)).1≠ []:=aT;have h':=this ⟨k - 1,by omega⟩;simp only[show k - 1+1=k by omega]at h';exact h'
def agU (k:Int):(kM k).2.length<=3:=Uw k
def agV (c:Cm) (h:¬(1<=c.kind/\c.kind<=13)) (w:ay):Calls prog 29 #[cmV c] w fun e w'=>e=.returned (J 84)/\Z w w':=by
 have hk:=KV c.kind;have e:(decide (1<=c.kind)&&decide (c.kind<=13))=false:=fE;rw[e]at hk;unfold cmV;clear e;go_enter func29,ntmps29;go_wp2_with fail
 refine(hk _).mono ?_;rintro e w1 ⟨rfl,rfl⟩;exact P5
def ab8 (k:Nat) (hk1:1<=k) (hk2:k<=13) (nm pa:Bs) (sh nd lm jb tk:Int) (w:ay) (hT:Tab w):Calls prog 29 #[cmV ⟨k,nm,pa,sh,nd,lm,jb,tk⟩] w fun e w'=>e=.returned (J (aly (oU ⟨0,nm,pa,sh,nd,lm,jb,tk⟩ (kM (k:Int)).2)))/\Z w w':=by
 have hk:=KV (k:Int);have e:(decide (1<=(k:Int))&&decide ((k:Int)<=13))=true:=fE;rw[e]at hk;have hfl:=X9 k hk1 hk2;have hln:=agU (k:Int);generalize (kM (k:Int)).2=F at *;unfold cmV;simp only;clear e;have bA:Z w ((w.alloc (.cells #[J k,.string (str nm),.string (str pa),J sh,J nd,J lm,J jb,J tk] 45)).alloc (.cells #[J 0,.string (str nm),.string (str pa),J sh,J nd,J lm,J jb,J tk] 45)):=dY.alloc dF _;have C0:oq ((w.alloc (.cells #[J k,.string (str nm),.string (str pa),J sh,J nd,J lm,J jb,J tk] 45)).alloc (.cells #[J 0,.string (str nm),.string (str pa),J sh,J nd,J lm,J jb,J tk] 45)) (w.heap.size+1) ⟨0,nm,pa,sh,nd,lm,jb,tk⟩:=by have:=oq.new (w.alloc (.cells #[J k,.string (str nm),.string (str pa),J sh,J nd,J lm,J jb,J tk] 45)) ⟨0,nm,pa,sh,nd,lm,jb,tk⟩;rwa [iI]at this
 have HC0:Hid (oq _ _ _):=C0;have HT:Hid _:=hT.below bA;have HB:Hid _:=bA;clear C0 bA;go_enter func29,ntmps29;go_wp2_with fail
 refine(hk _).mono ?_;rintro e w1 ⟨rfl,rfl⟩;go_wp2_with fail
 refine(hfl _ HT.out).mono ?_;rintro e w2 ⟨v,rfl,hrow,b2⟩;obtain⟨ao,cap,o,rfl,hao,hBo,hF⟩:=agS hrow;simp at hBo;have hC2:=oq.below HC0.out b2;have hB2:=HB.out.trans (b2.mono HB.out.size);clear HC0 HT HB b2 hrow hfl hk;have⟨q,hq⟩:=aZ F.length;have HQ:Hid _:=hq;rw[hq]at hao hln ⊢;clear hq;go_wp2;go_loopg [16] q (fun gk p wr=>∃(j:Nat) (d:Cm),j+gk=q/\p=J j/\oq wr (w.heap.size+1) d/\Af wr o F/\Z w wr/\oU ⟨0,nm,pa,sh,nd,lm,jb,tk⟩ F=oU d (F.drop j))
 case atStart=>exact⟨0,_,by omega,rfl,hC2,hF,hB2,by simp⟩
 case round=>
  clear hC2 hF hB2;obtain⟨j,d,hj,rfl,hC,hF,hb,hinv⟩:=hrel;have hz:=hb.size;by_cases hlt:j<q
  ·have hlt':(j:Int)<q:=ak;obtain⟨x,hx⟩:∃x,F[j]?=some x:=⟨_,aY (by rw[HQ.out];exact hlt)⟩;have hcell:=hF j x hx;obtain rfl:=hao ak
   cases hn:QG x with
   | true=>
    rw[X4 hx hn]at hinv;have HI:Hid _:=hinv;have htk:=ab7 hn hC;have C1:=hC.alx x [];have KL:Hid (oq _ _ _):=C1;have F1:Hid (Af _ _ _):=hF.far (g:=w.heap.size+1) (k:=Gc x) (v:=.string (str [])) ak;have B1:Hid (Below _ _ _):=hb.setCell (p:=⟨w.heap.size+1,Gc x,none⟩) dF (.string (str []));clear hx hinv hn hC hF C1
    cases hvv:Dc (Uv d x)with
    | true=>
     rw[hvv,aJ rfl]at HI;rw[hvv]at htk;go_wp2_with fail
     refine htk.mono ?_;rintro e w1 ⟨rfl,rfl⟩;go_wp2;go_roundg (q - (j+1))
     case measure=>omega
     case rel=>exact⟨j+1,agJ d x [],by omega,by go_num,KL.out,F1.out,B1.out,HI.out⟩
    | false=>
     rw[hvv,au dF]at HI;rw[hvv]at htk;go_wp2_with fail
     refine htk.mono ?_;rintro e w1 ⟨rfl,rfl⟩;go_wp2;go_ret;exact⟨by rw[HI.out];rfl,B1.out⟩
   | false=>
    rw[ab5 hx hn]at hinv;have htk:=agO hn hC;have C1:=hC.aqp x 0;have KL:Hid (oq _ _ _):=C1;have F1:Hid (Af _ _ _):=hF.far (g:=w.heap.size+1) (k:=yQ x) (v:=J 0) ak;have B1:Hid (Below _ _ _):=hb.setCell (p:=⟨w.heap.size+1,yQ x,none⟩) dF (J 0);clear hx hn C1 hC hF;by_cases hneg:X3 d x<0
    ·rw[aJ hneg]at hinv;have HI:Hid _:=hinv;rw[dH ak]at htk;clear hinv hneg;go_wp2_with fail
     refine htk.mono ?_;rintro e w1 ⟨rfl,n,rfl⟩;go_wp2;go_ret;exact⟨by rw[HI.out];rfl,B1.out.trans ((jB _ n).mono B1.out.size)⟩
    ·rw[au hneg]at hinv;have HI:Hid _:=hinv;rw[dS ak]at htk;clear hinv hneg;go_wp2_with fail
     refine htk.mono ?_;rintro e w1 ⟨rfl,n,rfl⟩;go_wp2;go_roundg (q - (j+1))
     case measure=>omega
     case rel=>exact⟨j+1,agK d x 0,by omega,by go_num,oq.below KL.out (jB _ n),Af.below F1.out (jB _ n),B1.out.trans ((jB _ n).mono B1.out.size),HI.out⟩
  ·obtain rfl:j=q:=ak;have HI:Hid (oU ⟨0,nm,pa,sh,nd,lm,jb,tk⟩ F=some d):=(by rw[hinv,vY (by rw[HQ.out];exact aC _)];exact rfl);clear hinv;obtain⟨kd,nm',pa',sh',nd',lm',jb',tk'⟩:=d;obtain⟨⟨z0,z1,z2,z3,z4,z5,z6,z7⟩,_⟩:=hC.cells;simp only at z0 z1 z2 z3 z4 z5 z6 z7;go_wp2
   all_goals go_ret
   all_goals refine⟨?_,hb⟩
   all_goals rw[HI.out,agN]
   all_goals first
    | (rw[aJ (by refine⟨?_,?_,?_,?_,?_,?_,?_,?_⟩<;>assumption)];rfl)
    | (rw[au (by rintro ⟨y0,y1,y2,y3,y4,y5,y6,y7⟩;contradiction)];rfl)
def jA (c:Cm) (w:ay) (hT:Tab w):Calls prog 29 #[cmV c] w fun e w'=>e=.returned (J (tZ c))/\Z w w':=by
 have hck:tZ c=if (kM c.kind).1= []then 84 else aly (oU {c with kind:=0} (kM c.kind).2):=rfl;rw[hck];obtain⟨kind,nm,pa,sh,nd,lm,jb,tk⟩:=c;by_cases h:1<=kind/\kind<=13
 ·obtain ⟨k,rfl⟩:∃k:Nat,kind=k:=⟨kind.toNat,by omega⟩;rw[au (alz ⟨by omega,by omega⟩)];exact ab8 k ak ak nm pa sh nd lm jb tk w hT
 ·rw[aJ (by rw[agT h])];exact agV _ h w
end V8
end Go.Proofs.YtdhifkbbjlhcaaaGreatDoor

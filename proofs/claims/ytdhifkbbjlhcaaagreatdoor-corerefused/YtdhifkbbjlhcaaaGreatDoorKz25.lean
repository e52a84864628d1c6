import Derived.Test.YtdhifkbbjlhcaaaGreatDoorKz0
import Derived.Lib.TrailingZeros
import Derived.Test.YtdhifkbbjlhcaaaGreatDoorChecked
import Derived.WalkLawsBesides
import Derived.Laws.Bits128
import Derived.RowKit3
import Derived.WalkSpells
import Derived.Deep.QuietTactic
import Derived.BigQuiet
set_option maxRecDepth 20000
set_option maxHeartbeats 2000000
set_option linter.defProp false
namespace Go.Proofs.YtdhifkbbjlhcaaaGreatDoor
open Go.Proofs.Tryz
variable {w w':ay}
namespace N2
namespace Nd
def wd (F i:Nat):Nat:=F / 2^(64*i) % 18446744073709551616
def H_ (F i:Nat):wd F i<18446744073709551616:=Nat.mod_lt _ aT
theorem Gi (F i j:Nat):(wd F i).testBit j=(decide (j<64)&&F.testBit (64*i+j)):=by
 unfold wd;rw[show (18446744073709551616:Nat)=2^64 by rfl,Nat.testBit_mod_two_pow,Nat.testBit_div_two_pow,Nat.add_comm]
def frees (F N:Nat):List Nat:=(List.range N).filter fun k=>F.testBit k
def mI (F:Nat):List Nat:=frees F 256
theorem Dk (F N:Nat):frees F (N+1)=frees F N++(if F.testBit N then [N]else []):=by
 grind[frees,SL]
def K_ (F:Nat):frees F 0= []:=rfl
def acA (F a d:Nat):∃l,frees F (a+d)=frees F a++l:=by
 induction d with
 | zero=>simp_all
 | succ d ih=>grind[Dk]
def La (F a d:Nat) (h:∀j,a<=j->j<a+d->F.testBit j=false):frees F (a+d)=frees F a:=by
 induction d with
 | zero=>rfl
 | succ d ih=>grind[Dk]
def acB (F N:Nat):(frees F N).length<=N:=by
 grind[frees]
def Q5 (F:Nat):(mI F).length<=256:=acB F 256
def Yl (F a d many:Nat) (h:many<=(frees F a).length):(frees F (a+d)).take many=(frees F a).take many:=by
 have⟨l,hl⟩:=acA F a d;grind
theorem Bd (F N k:Nat):k∈frees F N↔k<N/\F.testBit k=true:=by simp[frees]
def Ym (F N:Nat):(frees F N).Pairwise (· < ·):=PN _ List.pairwise_lt_range
def pop (u:Nat):Nat:=((List.range 64).filter fun j=>u.testBit j).length
def Q6 (u:Nat):pop u<=64:=by
 grind[pop]
theorem wQ (p:Nat->Bool) (a d:Nat):((List.range (a+d)).filter p).length=((List.range a).filter p).length+((List.range d).filter fun j=>p (a+j)).length:=by
 induction d with
 | zero=>simp
 | succ d ih=>grind[SL]
def xW (F i:Nat):(frees F (64*(i+1))).length=(frees F (64*i)).length+pop (wd F i):=by
 grind[frees,pop,wQ,PS,Gi]
def ahx (u:Nat) (h0:u≠0) (h:u<18446744073709551616):∃m,u=2^Lib.ctz 64 u*(2*m+1)/\Lib.ctz 64 u<64:=by
 have⟨m,hm,hk⟩:=Lib.ctzFrom_spec 64 u ak h;grind[Lib.ctz]
theorem aav (k m j:Nat):(2^k*(2*m+1)).testBit j=(decide (k<=j)&&(decide (j=k)||(decide (k<j)&&m.testBit (j - k - 1)))):=by
 rw[Ny,Nat.testBit_mul_two_pow];by_cases h:k<=j
 ·exact aoq
 grind
def alS (k m:Nat):(2^k*(2*m+1)) &&& (2^k*(2*m+1) - 1)=2^(k+1)*m:=by
 have hp:=Nat.two_pow_pos k;have e:2^k*(2*m+1) - 1=2^k*(2*m)+(2^k - 1):=by grind
 rw[e];apply JM;intro j;rw[Nat.testBit_and,aav,JR _ ak,Ny (2^(k+1)),Nat.testBit_mul_two_pow];by_cases h:j<k
 ·grind
 ·rw[au h];exact aoq
structure Lb (F i k u:Nat):Prop where
 lt:u<18446744073709551616
 bit:∀j,u.testBit j=(decide (k<=j)&&(wd F i).testBit j)
def Yn (F i:Nat):Lb F i 0 (wd F i):=⟨H_ F i,by simp⟩
def acC (F i k:Nat) (hk:k<=64) (h:Lb F i k 0):frees F (64*(i+1))=frees F (64*i+k):=by
 rw[show 64*(i+1)=64*i+k+(64 - k) by omega];apply La;intro j h1 h2;have:=h.bit (j - 64*i);grind[Gi]
def left_step (F i k u:Nat) (_hk:k<=64) (h:Lb F i k u) (h0:u≠0):
  k<=Lib.ctz 64 u/\Lib.ctz 64 u<64/\frees F (64*i+(Lib.ctz 64 u+1))=frees F (64*i+k)++ [64*i+Lib.ctz 64 u]/\Lb F i (Lib.ctz 64 u+1) (u &&& (u - 1)):=by
 have⟨m,hm,hc⟩:=ahx u h0 h.lt;generalize Lib.ctz 64 u=c at hm hc ⊢;have hcut:=alS c m;rw[← hm]at hcut;have hb:∀j,u.testBit j=(decide (c<=j)&&(decide (j=c)||(decide (c<j)&&m.testBit (j - c - 1)))):=by grind[aav]
 have hcc:u.testBit c=true:=by grind
 have hkc:k<=c:=by have:=h.bit c;grind
 have hFc:F.testBit (64*i+c)=true:=by have:=h.bit c;grind[Gi]
 refine⟨hkc,hc,?_,?_,?_⟩
 ·rw[← Nat.add_assoc,Dk,hFc,aJ rfl];congr 1;rw[show 64*i+c=64*i+k+(c - k) by omega];apply La;intro j h1 h2;have:=h.bit (j - 64*i);rw[hb,Gi]at this;simpa [show ¬c<=j - 64*i by omega,show k<=j - 64*i by omega,show j - 64*i<64 by omega,show 64*i+(j - 64*i)=j by omega]using this.symm
 ·exact PU Nat.and_le_left h.lt
 ·intro j;rw[hcut,Ny,Nat.testBit_mul_two_pow];have hj:=h.bit j;grind
end Nd
end N2
namespace N2
namespace Nd
def wR (a b c d:Nat) (ha:a<256) (hc:c<256):(a+256*b) &&& (c+256*d)=(a &&& c)+256*(b &&& d):=by
 have hac:a &&& c<2^8:=by grind[Nat.and_le_left]
 rw[show a+256*b=2^8*b+a by omega,show c+256*d=2^8*d+c by omega,show (a &&& c)+256*(b &&& d)=2^8*(b &&& d)+(a &&& c) by omega];apply JM;intro j;rw[Nat.testBit_and,JR _ ha,JR _ hc,JR _ hac];grind
def val:List Nat->Nat
 | []=>0
 | a::l=>a+256*val l
def rep (m:Nat):Nat->Nat
 | 0=>0
 | n+1=>m+256*rep m n
def aqH (l:List Nat) (h:∀a∈l,a<256):val l<256^l.length:=by
 induction l with
 | nil=>simp[val]
 | cons a l ih=>grind[pJ,val]
def s1 (a:Nat):Nat:=(a / 2 &&& 85)+(a &&& 85)
def s2 (a:Nat):Nat:=(a / 4 &&& 51)+(a &&& 51)
def s3 (a:Nat):Nat:=a / 16+a % 16
def pop8 (a:Nat):Nat:=((List.range 8).filter fun j=>a.testBit j).length
def auT:∀a:Fin 256,∀c:Fin 2,(a.val / 2+128*c.val) &&& 85=a.val / 2 &&& 85:=by decide +kernel
def auU:∀a:Fin 256,∀c:Fin 4,(a.val / 4+64*c.val) &&& 51=a.val / 4 &&& 51:=by decide +kernel
def lQ:∀a:Fin 256,s1 a.val<256/\s2 (s1 a.val)<256/\s2 (s1 a.val) % 16<=4/\s2 (s1 a.val) / 16<=4/\s3 (s2 (s1 a.val))=pop8 a.val/\pop8 a.val<=8:=by decide +kernel
def aqI (l:List Nat) (h:∀a∈l,a<256):(val l / 2 &&& rep 85 l.length)+(val l &&& rep 85 l.length)=val (l.map s1):=by
 induction l with
 | nil=>simp[val,rep]
 | cons a l ih=>have h1:=ih (fun x hx=>h x (ny _ hx));have h2:=h a (pJ ..);have h3:=auT ⟨a,h2⟩ ⟨val l % 2,by omega⟩;simp only at h3;simp only[val,dK,rep,nI];rw[show (a+256*val l) / 2=(a / 2+128*(val l % 2))+256*(val l / 2) by omega,wR _ _ _ _ ak ak,wR _ _ _ _ h2 ak,h3,<-h1,s1];omega
def aqJ (l:List Nat) (h:∀a∈l,a<256):(val l / 4 &&& rep 51 l.length)+(val l &&& rep 51 l.length)=val (l.map s2):=by
 induction l with
 | nil=>simp[val,rep]
 | cons a l ih=>have h1:=ih (fun x hx=>h x (ny _ hx));have h2:=h a (pJ ..);have h3:=auU ⟨a,h2⟩ ⟨val l % 4,by omega⟩;simp only at h3;simp only[val,dK,rep,nI];rw[show (a+256*val l) / 4=(a / 4+64*(val l % 4))+256*(val l / 4) by omega,wR _ _ _ _ ak ak,wR _ _ _ _ h2 ak,h3,<-h1,s2];omega
def aqK (l:List Nat) (h:∀a∈l,a % 16<=4/\a / 16<=4):(val l / 16+val l) &&& rep 15 l.length=val (l.map s3):=by
 induction l with
 | nil=>simp[val,rep]
 | cons a l ih=>
  have h1:=ih (fun x hx=>h x (ny _ hx));have⟨h2,h3⟩:=h a (pJ ..);have h4:val l % 16<=4:=by
   cases l with
   | nil=>simp[val]
   | cons b r=>have:=(h b dF).1;simp only[val];omega
  simp only[val,dK,rep,nI];rw[show (a+256*val l) / 16+(a+256*val l)=(a / 16+16*(val l % 16)+a)+256*(val l / 16+val l) by omega,wR _ _ _ _ ak ak,h1,s3];have:=Nat.and_two_pow_sub_one_eq_mod (a / 16+16*(val l % 16)+a) 4;grind
def alT (l:List Nat) (h:∀a∈l,a<256):((List.range (8*l.length)).filter fun j=>(val l).testBit j).length=(l.map pop8).sum:=by
 induction l with
 | nil=>simp
 | cons a l ih=>
  have h1:=ih (fun x hx=>h x (ny _ hx));have h2:a<2^8:=by simp_all
  rw[dK,Nat.mul_add,Nat.mul_one,Nat.add_comm,wQ,nI,List.sum_cons,<-h1,pop8,val,Nat.add_comm a,show (256:Nat)=2^8 by rfl];congr 2
  ·apply PS;intro j hj;have:j<8:=(by grind);rw[JR _ h2,aJ this]
  grind
def bytes (x:Nat) (h:x<18446744073709551616):∃a0 a1 a2 a3 a4 a5 a6 a7,a0<256/\a1<256/\a2<256/\a3<256/\a4<256/\a5<256/\a6<256/\a7<256/\val [a0,a1,a2,a3,a4,a5,a6,a7]=x:=by
 refine⟨x % 256,x / 256 % 256,x / 65536 % 256,x / 16777216 % 256,x / 4294967296 % 256,x / 1099511627776 % 256,x / 281474976710656 % 256,x / 72057594037927936 % 256,by omega,by omega,by omega,by omega,by omega,by omega,by omega,by omega,?_⟩;simp only[val];omega
def aqL (l:List Nat) (h:∀a∈l,a<=68):val l<=68*rep 1 l.length:=by
 induction l with
 | nil=>simp[val,rep]
 | cons a l ih=>grind[pJ,val,rep]
def azS:rep 1 8=72340172838076673:=iW
def auV:rep 85 8=6148914691236517205:=iW
def auW:rep 51 8=3689348814741910323:=iW
def auX:rep 15 8=1085102592571150095:=iW
def azT:(256:Nat)^8=18446744073709551616:=iW
def acD (x:Nat) (h:x<18446744073709551616):∃x1 x2 x3:Nat,
  (x / 2 &&& 6148914691236517205)+(x &&& 6148914691236517205)=x1/\x1<18446744073709551616/\
  (x1 / 4 &&& 3689348814741910323)+(x1 &&& 3689348814741910323)=x2/\x2<18446744073709551616/\
  x2 / 16+x2<18446744073709551616/\(x2 / 16+x2) &&& 1085102592571150095=x3/\
  (∃c0 c1 c2 c3 c4 c5 c6 c7,x3=val [c0,c1,c2,c3,c4,c5,c6,c7]/\c0<=8/\c1<=8/\c2<=8/\c3<=8/\c4<=8/\c5<=8/\c6<=8/\c7<=8/\
   pop x=c0+c1+c2+c3+c4+c5+c6+c7):=by
 obtain⟨a0,a1,a2,a3,a4,a5,a6,a7,g0,g1,g2,g3,g4,g5,g6,g7,hx⟩:=bytes x h;have hl:∀a∈ [a0,a1,a2,a3,a4,a5,a6,a7],a<256:=by simp_all
 have hn: [a0,a1,a2,a3,a4,a5,a6,a7].length=8:=rfl;have hm:(((([a0,a1,a2,a3,a4,a5,a6,a7].map s1).map s2).map s3):List Nat)= [pop8 a0,pop8 a1,pop8 a2,pop8 a3,pop8 a4,pop8 a5,pop8 a6,pop8 a7]:=by simp only[nI,List.map_nil,(lQ ⟨a0,g0⟩).2.2.2.2.1,(lQ ⟨a1,g1⟩).2.2.2.2.1,(lQ ⟨a2,g2⟩).2.2.2.2.1,(lQ ⟨a3,g3⟩).2.2.2.2.1,(lQ ⟨a4,g4⟩).2.2.2.2.1,(lQ ⟨a5,g5⟩).2.2.2.2.1,(lQ ⟨a6,g6⟩).2.2.2.2.1,(lQ ⟨a7,g7⟩).2.2.2.2.1]
 have hs:([a0,a1,a2,a3,a4,a5,a6,a7].map pop8).sum=pop8 a0+pop8 a1+pop8 a2+pop8 a3+pop8 a4+pop8 a5+pop8 a6+pop8 a7:=by simp only[nI,List.map_nil,List.sum_cons,List.sum_nil];omega
 generalize [a0,a1,a2,a3,a4,a5,a6,a7]=l at hl hn hm hs hx;have e1:=aqI l hl;have b1:∀a∈l.map s1,a<256:=by intro a ha;obtain⟨c,hc,rfl⟩:=jH.1 ha;exact(lQ ⟨c,hl c hc⟩).1
 have e2:=aqJ (l.map s1) b1;have b2:∀a∈(l.map s1).map s2,a % 16<=4/\a / 16<=4:=by intro a ha;simp only[Fv,jH,Function.comp_apply]at ha;obtain⟨c,hc,rfl⟩:=ha;have:=lQ ⟨c,hl c hc⟩;grind
 have e3:=aqK ((l.map s1).map s2) b2;have l1:=aqH (l.map s1) b1;have l2:=aqL ((l.map s1).map s2) (fun a ha=>by have:=b2 a ha;omega);have hp:=alT l hl;rw[hm]at e3;simp only[dL,hn,azS,auV,auW,auX,azT]at e1 e2 e3 l1 l2 hp;rw[hx]at e1 hp;refine⟨_,_,_,e1,l1,e2,by omega,by omega,e3,pop8 a0,pop8 a1,pop8 a2,pop8 a3,pop8 a4,pop8 a5,pop8 a6,pop8 a7,rfl,(lQ ⟨a0,g0⟩).2.2.2.2.2,(lQ ⟨a1,g1⟩).2.2.2.2.2,(lQ ⟨a2,g2⟩).2.2.2.2.2,(lQ ⟨a3,g3⟩).2.2.2.2.2,(lQ ⟨a4,g4⟩).2.2.2.2.2,(lQ ⟨a5,g5⟩).2.2.2.2.2,(lQ ⟨a6,g6⟩).2.2.2.2.2,(lQ ⟨a7,g7⟩).2.2.2.2.2,?_⟩;rw[← hs];exact hp
theorem Ew (a:Nat) (l:List Nat):val (a::l)=a+256*val l:=rfl
def aFX (a:Nat) (l:List Nat) (h:a<256):val (a::l) / 256=val l:=by
 rw[Ew];omega
theorem azU (a b:Nat) (l:List Nat) (h:a<256) (g:b<256):val (a::b::l) / 65536=val l:=by
 grind[Ew]
theorem azV (a b c d:Nat) (l:List Nat) (h:a<256) (g:b<256) (i:c<256) (j:d<256):val (a::b::c::d::l) / 4294967296=val l:=by
 grind[Ew]
def auY (a b:Nat) (l r:List Nat):val (a::l)+val (b::r)=(a+b)+256*(val l+val r):=by
 grind[Ew]
def add_nil (l:List Nat):val l+val []=val l:=by simp[val]
def ahy (x3 c0 c1 c2 c3 c4 c5 c6 c7:Nat) (h:x3=val [c0,c1,c2,c3,c4,c5,c6,c7]) (h0:c0<=8) (h1:c1<=8) (h2:c2<=8) (h3:c3<=8) (h4:c4<=8) (h5:c5<=8) (h6:c6<=8) (h7:c7<=8):
  ∃x4 x5 x6:Nat,x3+x3 / 256=x4/\x4+x4 / 65536=x5/\x5+x5 / 4294967296=x6/\x4<4611686018427387904/\x5<4611686018427387904/\x6<4611686018427387904/\x6 % 128=c0+c1+c2+c3+c4+c5+c6+c7:=by
 have e4:x3+x3 / 256=val [c0+c1,c1+c2,c2+c3,c3+c4,c4+c5,c5+c6,c6+c7,c7]:=by grind[val]
 have e5:val [c0+c1,c1+c2,c2+c3,c3+c4,c4+c5,c5+c6,c6+c7,c7]+val [c0+c1,c1+c2,c2+c3,c3+c4,c4+c5,c5+c6,c6+c7,c7] / 65536=val [c0+c1+(c2+c3),c1+c2+(c3+c4),c2+c3+(c4+c5),c3+c4+(c5+c6),c4+c5+(c6+c7),c5+c6+c7,c6+c7,c7]:=by grind[val,azU]
 have e6:val [c0+c1+(c2+c3),c1+c2+(c3+c4),c2+c3+(c4+c5),c3+c4+(c5+c6),c4+c5+(c6+c7),c5+c6+c7,c6+c7,c7]+val [c0+c1+(c2+c3),c1+c2+(c3+c4),c2+c3+(c4+c5),c3+c4+(c5+c6),c4+c5+(c6+c7),c5+c6+c7,c6+c7,c7] / 4294967296=val [c0+c1+(c2+c3)+(c4+c5+(c6+c7)),c1+c2+(c3+c4)+(c5+c6+c7),c2+c3+(c4+c5)+(c6+c7),c3+c4+(c5+c6)+c7,c4+c5+(c6+c7),c5+c6+c7,c6+c7,c7]:=by grind[val,azV]
 grind[val]
end Nd
end N2
namespace N2
open Go.RowKit Nd
def aaw {k:IntKind} {a b:Int} (h:a=b):Ending.returned (.int k a)=.returned (.int k b):=by rw[h]
def Q7 (a M:Nat) (m:Int) (hm:m=(M:Int)) (ha:a<18446744073709551616) (hM:M<18446744073709551616):bits .and .u64 (a:Int) m=((a &&& M:Nat):Int):=by
 grind[Nz]
def Ao (a d M:Nat) (D m:Int) (hD:D=(d:Int)) (hm:m=(M:Int)) (ha:a<18446744073709551616) (hM:M<18446744073709551616):bits .and .u64 ((a:Int) / D) m=((a / d &&& M:Nat):Int):=by
 rw[hD,hm,<-Int.natCast_ediv];exact Nz (a / d) M (PU (Nat.div_le_self a d) ha) hM
def Ap (x:Nat) (hx:x<18446744073709551616) (w:ay):
  Calls prog 168 #[O x] w fun e w'=>e=.returned (J (pop x))/\w'=w:=by
 have⟨x1,x2,x3,e1,l1,e2,l2,l3,e3,c0,c1,c2,c3,c4,c5,c6,c7,hc,g0,g1,g2,g3,g4,g5,g6,g7,hp⟩:=acD x hx;have⟨x4,x5,x6,e4,e5,e6,l4,l5,l6,hr⟩:=ahy x3 c0 c1 c2 c3 c4 c5 c6 c7 hc g0 g1 g2 g3 g4 g5 g6 g7;rw[show pop x=x6 % 128 by omega];clear hp hr hc g0 g1 g2 g3 g4 g5 g6 g7;have k1:IntKind.u64.wrap (bits .and .u64 ((x:Int) / 2) 6148914691236517205+bits .and .u64 (x:Int) 6148914691236517205)=(x1:Int):=by rw[Ao x 2 6148914691236517205 2 6148914691236517205 rfl rfl hx aT,Q7 x 6148914691236517205 6148914691236517205 rfl hx aT,d_];omega
 have k2:IntKind.u64.wrap (bits .and .u64 ((x1:Int) / 4) 3689348814741910323+bits .and .u64 (x1:Int) 3689348814741910323)=(x2:Int):=by rw[Ao x1 4 3689348814741910323 4 3689348814741910323 rfl rfl l1 aT,Q7 x1 3689348814741910323 3689348814741910323 rfl l1 aT,d_];omega
 have k3:bits .and .u64 (IntKind.u64.wrap ((x2:Int) / 16+(x2:Int))) 1085102592571150095=(x3:Int):=by rw[d_,show ((x2:Int) / 16+(x2:Int)) % 18446744073709551616=((x2 / 16+x2:Nat):Int) by omega,Q7 (x2 / 16+x2) 1085102592571150095 1085102592571150095 rfl l3 aT,e3]
 have k4:IntKind.u64.wrap ((x3:Int)+(x3:Int) / 256)=(x4:Int):=by rw[d_];omega
 have k5:IntKind.u64.wrap ((x4:Int)+(x4:Int) / 65536)=(x5:Int):=by rw[d_];omega
 have k6:IntKind.u64.wrap ((x5:Int)+(x5:Int) / 4294967296)=(x6:Int):=by rw[d_];omega
 clear e1 e2 e3 e4 e5 e6 l1 l2 l3 l4 l5;go_enter func168,ntmps168;go_wp2_with (first | simp only[k1] | simp only[k2] | simp only[k3] | simp only[k4] | simp only[k5] | simp only[k6])
 go_ret;exact⟨aaw (by rw[i64_and127];omega),rfl⟩
def Tab (w:ay):Prop:=∀j,j<64->w.cell? ⟨4,j,none⟩=some (.int .u8 (Lib.deBruijn64tab.getD j 0:Nat))
def auZ (x c d:Nat) (w:ay) (h0:((x:Int)==0)=false) (hk:IntKind.u64.wrap (bits .and .u64 (x:Int) (IntKind.u64.wrap (-(x:Int)))*285870213051353865) / 288230376151711744=(d:Int)) (hd:d<64) (hc:c<64) (hw:w.cell? ⟨4,d,none⟩=some (.int .u8 c)):
  Calls prog 295 #[O x] w fun e w'=>e=.returned (J c)/\w'=w:=by
 go_enter func295,ntmps295;go_wp2_with (simp only[hk])
 go_ret;exact⟨rfl,rfl⟩
def aqM (x:Nat) (hx:x<18446744073709551616) (h0:x≠0) (w:ay) (hT:Tab w):
  Calls prog 295 #[O x] w fun e w'=>e=.returned (J (Lib.ctz 64 x))/\w'=w:=by
 have⟨hlow,hc⟩:=Lib.lowest_bit 64 x h0 hx;have⟨hd,ht⟩:=Lib.deBruijn64_at _ hc;refine auZ x (Lib.ctz 64 x) (2^Lib.ctz 64 x*285870213051353865 % 18446744073709551616 / 288230376151711744) w fE ?_ hd hc ?_
 ·have e:IntKind.u64.wrap (-(x:Int))=((2^64 - x:Nat):Int):=by rw[d_];omega
  rw[e,Nz x _ hx ak,hlow,d_];generalize 2^Lib.ctz 64 x=a;omega
 ·rw[hT _ hd,ht]
namespace Nd
theorem alU (F k i:Nat):wd (F ^^^ 2^k) i=if k / 64=i then wd F i ^^^ 2^(k % 64)else wd F i:=by
 apply JM;grind[Gi]
end Nd
def aax {r:Option Nat} (h:w.grownBy w' r):w.grownBy w'.drew r:=⟨h.os,h.tape,h.output,h.size,h.block⟩
def UM {w w1 w2:ay} {r:Option Nat} (h:w.grownBy w1 r) (k:w1.grownBy w2 r):w.grownBy w2 r:=
 ⟨k.os.trans h.os,k.tape.trans h.tape,k.output.trans h.output,bM h.size k.size,fun i hi hr=>(k.block i (gL hi h.size) hr).trans (h.block i hi hr)⟩
def Q8 (w:ay) (r:Option Nat):w.grownBy w r:=⟨rfl,rfl,rfl,aC _,fun _ _ _=>rfl⟩
def UN (h:Z w w') (r:Option Nat):w.grownBy w' r:=⟨h.os,h.tape,h.output,h.size,fun i hi _=>h.block i hi⟩
def aqN (w:ay) (a:Addr) (v:Value):w.grownBy (w.setCell a v) (some a.block):=
 ⟨rfl,rfl,rfl,by simp_all,fun i _ hr=>gy w a v i (fun e=>hr (by rw[e]))⟩
def aqO {g:Nat} (h:w.grownBy w' (some g)) (hg:g≠4) (hT:Tab w):Tab w':=fun j hj=>h.cell (hT j hj) (fun e=>hg (ji e).symm)
def sS (h:Z w w') (hT:Tab w):Tab w':=fun j hj=>(UN h none).cell (hT j hj) dF
def setCells (n F:Nat):Array Value:= #[J n,O (wd F 0),O (wd F 1),O (wd F 2),O (wd F 3)]
structure fH (w:ay) (b n F:Nat):Prop where
 tab:Tab w
 nz:b≠4
 blk:w.heap[b]?=some (.cells (setCells n F) 194 (0,0))
 lo:1<=n
 hi:n<=256
 top:F<2^n
section
variable {w:ay} {b n F:Nat}
theorem fH.size (h:fH w b n F):w.cell? ⟨b,0,none⟩=some (J n):=by simp[World.cell?,h.blk,setCells]
def fH.word (h:fH w b n F) (i:Nat) (hi:i<4):w.cell? ⟨b,1+i,none⟩=some (O (wd F i)):=by
 match i,hi with
 | 0,_=>simp[World.cell?,h.blk,setCells]
 | 1,_=>simp[World.cell?,h.blk,setCells]
 | 2,_=>simp[World.cell?,h.blk,setCells]
 | 3,_=>simp[World.cell?,h.blk,setCells]
theorem fH.free (h:fH w b n F) (o:Nat):w.frozen? ⟨b,o,none⟩=false:=by simp[World.frozen?,h.blk]
theorem fH.lt (h:fH w b n F):b<w.heap.size:=(aS.1 h.blk).1
def fH.bit (h:fH w b n F) (k:Nat) (hk:n<=k):F.testBit k=false:=Nat.testBit_lt_two_pow (gL h.top (Nat.pow_le_pow_right aT hk))
theorem acE (F k:Nat) (hk:k<256):(setCells n F).setIfInBounds (1+k / 64) (O ((wd F (k / 64) ^^^ 2^(k % 64):Nat):Int))=setCells n (F ^^^ 2^k):=by
 grind[setCells,alU]
def fT (h:w.heap[b]?=some (.cells (setCells n F) 194 (0,0))) (k:Nat) (hk:k<256):(w.setCell ⟨b,1+k / 64,none⟩ (O ((wd F (k / 64) ^^^ 2^(k % 64):Nat):Int))).heap[b]?=some (.cells (setCells n (F ^^^ 2^k)) 194 (0,0)):=by
 have⟨hlt,h'⟩:=aS.1 h;show (w.heap.modify b _)[b]?=_;grind[acE]
end
def acF (F k i:Nat):bits .xor .u64 (wd F i:Int) (IntKind.u64.wrap (2^(k % 64)))=((wd F i ^^^ 2^(k % 64):Nat):Int):=by
 have h:2^(k % 64)<2^64:=Nat.pow_lt_pow_right aT ak;have e:IntKind.u64.wrap (2^(k % 64))=((2^(k % 64):Nat):Int):=by grind[d_]
 rw[e];exact bits_xor_u64_nat _ _ (H_ F i) h
def UO (b n F k:Nat) (w:ay) (h:fH w b n F) (hk:k<n):
  Calls prog 135 #[.pointer (some ⟨b,0,none⟩),J k] w fun e w'=>e=.returned (.tuple #[])/\fH w' b n (F ^^^ 2^k)/\w.grownBy w' (some b):=by
 have hn:=h.hi;have hc:=h.word (k / 64) ak;have hf:=h.free (1+k / 64);have hx:=acF F k (k / 64);have hT:=h.tab;have hb:=fT h.blk k ak;go_enter func135,ntmps135;go_region
 go_end0
 have hg:=aqN w ⟨b,1+k / 64,none⟩ (O ((wd F (k / 64) ^^^ 2^(k % 64):Nat):Int));exact⟨rfl,⟨aqO (aax hg) h.nz hT,h.nz,hb,h.lo,h.hi,Nat.xor_lt_two_pow h.top (Nat.pow_lt_pow_right aT hk)⟩,aax hg⟩
def isB (n:Nat) (k:Int):Bool:=decide (0<=k)&&decide (k<n)
def tK (b n F:Nat) (k:Int) (w:ay) (h:fH w b n F):
  Calls prog 221 #[.pointer (some ⟨b,0,none⟩),J k] w fun e w'=>e=.returned (.bool (isB n k))/\w'=w:=by
 have hc:=h.size;by_cases h0:0<=k
 ·go_enter func221,ntmps221;go_wp2;go_ret;exact⟨by simp[isB,h0],rfl⟩
 ·go_enter func221,ntmps221;go_wp2;go_ret;exact⟨by simp[isB];omega,rfl⟩
def hasB (F:Nat) (k:Int):Bool:=decide (0<=k)&&F.testBit k.toNat
def ahz (F k:Nat):(bits .and .u64 ((wd F (k / 64):Int) / 2^(k % 64)) 1==1)=F.testBit k:=by
 have e2:((2^(k % 64):Nat):Int)=2^(k % 64):=dF;rw[← e2,Ao (wd F (k / 64)) (2^(k % 64)) 1 _ 1 rfl rfl (H_ _ _) aT,Nat.and_one_is_mod];have hb:=Gi F (k / 64) (k % 64);rw[show 64*(k / 64)+k % 64=k by omega,dS (show k % 64<64 by omega),rO]at hb;rw[← hb,Nat.testBit,Nat.shiftRight_eq_div_pow,Nat.and_comm,Nat.and_one_is_mod];generalize wd F (k / 64) / 2^(k % 64)=y;rcases Nat.mod_two_eq_zero_or_one y with h | h<;>simp[h]
def Eu (b n F:Nat) (k:Int) (w:ay) (h:fH w b n F):
  Calls prog 182 #[.pointer (some ⟨b,0,none⟩),J k] w fun e w'=>e=.returned (.bool (hasB F k))/\w'=w:=by
 cases hB:isB n k with
 | true=>
  obtain⟨m,rfl⟩:∃m:Nat,k=m:=⟨k.toNat,by simp[isB]at hB;omega⟩
  have hm:m<n:=by simp[isB]at hB;omega
  have hn:=h.hi;have hc:=h.word (m / 64) ak;have hb:=ahz F m;go_enter func182,ntmps182;go_wp2_with (go_at_call 221;refine(tK b n F _ _ h).mono ?_;rintro e w' ⟨rfl,rfl⟩;rw[hB])
  go_ret;exact⟨by simp[hasB],rfl⟩
 | false=>
  have hv:hasB F k=false:=by
   simp only[hasB,Bool.and_eq_false_iff,JJ];by_cases h0:0<=k
   ·right;apply h.bit;simp[isB]at hB;omega
   ·exact .inl h0
  rw[hv];go_enter func182,ntmps182;go_wp2_with (go_at_call 221;refine(tK b n F _ _ h).mono ?_;rintro e w' ⟨rfl,rfl⟩;rw[hB])
  go_ret;exact⟨rfl,rfl⟩
theorem fH.below {b n F:Nat} (h:fH w b n F) (hg:Z w w'):fH w' b n F:=
 ⟨sS hg h.tab,h.nz,by grind[lI,blk],h.lo,h.hi,h.top⟩
def Ey (b n F:Nat) (w:ay) (h:fH w b n F):
  Calls prog 119 #[.pointer (some ⟨b,0,none⟩)] w fun e w'=>e=.returned (J (mI F).length)/\w'=w:=by
 have c0:=h.word 0 aT;have c1:=h.word 1 aT;have c2:=h.word 2 aT;have c3:=h.word 3 aT;have i0:∀w,(Instr.index 192 (.agg #[O (wd F 0),O (wd F 1),O (wd F 2),O (wd F 3)]) (J 0)).run prog w=.ok (O (wd F 0)) w:=fun _=>by kernel_rfl
 have i1:∀w,(Instr.index 192 (.agg #[O (wd F 0),O (wd F 1),O (wd F 2),O (wd F 3)]) (J 1)).run prog w=.ok (O (wd F 1)) w:=fun _=>by kernel_rfl
 have i2:∀w,(Instr.index 192 (.agg #[O (wd F 0),O (wd F 1),O (wd F 2),O (wd F 3)]) (J 2)).run prog w=.ok (O (wd F 2)) w:=fun _=>by kernel_rfl
 have i3:∀w,(Instr.index 192 (.agg #[O (wd F 0),O (wd F 1),O (wd F 2),O (wd F 3)]) (J 3)).run prog w=.ok (O (wd F 3)) w:=fun _=>by kernel_rfl
 have p0:=Q6 (wd F 0);have p1:=Q6 (wd F 1);have p2:=Q6 (wd F 2);have p3:=Q6 (wd F 3);have HS:Hid ((mI F).length=pop (wd F 0)+pop (wd F 1)+pop (wd F 2)+pop (wd F 3)):=by
  have f0:=xW F 0;have f1:=xW F 1;have f2:=xW F 2;have f3:=xW F 3;have fz:(frees F (64*0)).length=0:=by simp[frees]
  show (frees F 256).length=_;simp only[Nat.reduceMul,Nat.reduceAdd]at f0 f1 f2 f3 fz;omega
 go_enter func119,ntmps119;go_wp2;refine wp_loop_rounds 5 ?_;rw[Fu];go_wp2_with (go_at_call 168;refine(Ap _ (H_ _ _) _).mono ?_;rintro e w' ⟨rfl,rfl⟩)
 rw[Fu];go_wp2_with (go_at_call 168;refine(Ap _ (H_ _ _) _).mono ?_;rintro e w' ⟨rfl,rfl⟩)
 rw[Fu];go_wp2_with (go_at_call 168;refine(Ap _ (H_ _ _) _).mono ?_;rintro e w' ⟨rfl,rfl⟩)
 rw[Fu];go_wp2_with (go_at_call 168;refine(Ap _ (H_ _ _) _).mono ?_;rintro e w' ⟨rfl,rfl⟩)
 rw[Fu];go_wp2_with (go_at_call 168;refine(Ap _ (H_ _ _) _).mono ?_;rintro e w' ⟨rfl,rfl⟩)
 go_ret;exact⟨aaw (by rw[HS.out];omega),rfl⟩
end N2
namespace N2
open Go.RowKit Nd
def Tryz.info3:(prog.info? 3).map (fun i=>(i.zero,i.size,i.bytes))=some (some (J 0),1,8):=aF
def vals (l:List Nat):List Value:=l.map fun k:Nat=>J (k:Int)
namespace Nd
theorem acG (A:List Nat) (x many:Nat) (h:(A.take many).length<many):(A++ [x]).take many=A.take many++ [x]:=by
 grind[xH]
def acH (F a d many:Nat) (h:¬((frees F a).take many).length<many):(frees F (a+d)).take many=(frees F a).take many:=
 Yl F a d many (by grind)
end Nd
def alV (F i:Nat) (hi:i<4) (w:ay):(Instr.index 192 (.agg #[O (wd F 0),O (wd F 1),O (wd F 2),O (wd F 3)]) (J i)).run prog w=.ok (O (wd F i)) w:=by
 obtain rfl | rfl | rfl | rfl:i=0\/i=1\/i=2\/i=3:=ak
 ·kernel_rfl
 ·kernel_rfl
 ·kernel_rfl
 ·kernel_rfl
def qB (w:ay) (F many N:Nat) (v:Value) (wr:ay):Prop:=
 v=.slice (some ⟨w.heap.size,0,none⟩) ((frees F N).take many).length many/\wr.ownsRow w.heap.size 3 1 (.slice (some ⟨w.heap.size,0,none⟩) ((frees F N).take many).length many) ((frees F N).take many).length (vals ((frees F N).take many))/\Z w wr
def ahA {w wr:ay} {F many N M:Nat} {v:Value} (h:qB w F many N v wr) (e:(frees F M).take many=(frees F N).take many):qB w F many M v wr:=by
 grind[qB]
def alW {w wr w1:ay} {F many N M x:Nat} {y:Int} {L:List Nat} (hL:(frees F N).take many=L) (hy:y=(x:Int)) (e:frees F M=frees F N++ [x]) (hl:L.length<many) (hb:Z w wr)
  (ho:w1.ownsRow w.heap.size 3 1 (.slice (some ⟨w.heap.size,0,none⟩) (L.length+1) many) (L.length+1) (vals L++ [J y]))
  (hg:(wr.alloc (.cells #[J y] 3)).grownBy w1 (some w.heap.size)):
  qB w F many M (.slice (some ⟨w.heap.size,0,none⟩) (L.length+1) many) w1:=by
 subst hL;subst hy;have es:(frees F M).take many=(frees F N).take many++ [x]:=by grind[acG]
 have ev:vals ((frees F N).take many++ [x])=vals ((frees F N).take many)++ [J (x:Int)]:=by simp[vals]
 unfold qB;rw[es,ev,tC,List.length_singleton];exact⟨rfl,ho,(hb.alloc hb.size _).grown hg (by have:=hb.size;simp;omega) (fun k hk=>by grind)⟩
def alX (b n F many:Nat) (w:ay) (h:fH w b n F) (hm:many<=256):
  Calls prog 277 #[.pointer (some ⟨b,0,none⟩),J many] w fun e w'=>
   e=.returned (.slice (some ⟨w.heap.size,0,none⟩) ((mI F).take many).length many)/\w'.ownsRow w.heap.size 3 1 (.slice (some ⟨w.heap.size,0,none⟩) ((mI F).take many).length many) ((mI F).take many).length (vals ((mI F).take many))/\Z w w':=by
 have⟨i0,hi,hz0,hz1,hz2⟩:=fA Tryz.info3;go_enter func277,ntmps277;go_wp2_with (at_make;refine wpList_make_own _ rfl _ _ 36 rfl w.heap.size 3 i0 (J 0) 1 underlying36 hi hz0 hz1 _ _ _ many rfl rfl rfl (by rw[hz2];omega) (by unfold maxLen;omega) (aC _) ?_;intro w0 hown0 uh;have hs0:=h.below ⟨uh.os,uh.tape,uh.output,uh.size,fun k hk=>uh.block k hk dF⟩;have c0:=hs0.word 0 aT;have c1:=hs0.word 1 aT;have c2:=hs0.word 2 aT;have c3:=hs0.word 3 aT)
 have hb0:Z w w0:=⟨uh.os,uh.tape,uh.output,uh.size,fun k hk=>uh.block k hk dF⟩;have R0:Hid (qB w F many 0 (.slice (some ⟨w.heap.size,0,none⟩) 0 many) w0):=⟨by simp[K_],by simpa [K_,vals]using hown0,hb0⟩;clear c0 c1 c2 c3 hs0 hown0 uh hb0;go_loopg [5,14] 4 (fun gk v c wr=>∃i:Nat,i+gk=4/\c=J i/\qB w F many (64*i) v wr)
 case atStart=>exact⟨0,rfl,rfl,R0.out⟩
 case round=>
  obtain⟨i,hi4,rfl,hR⟩:=hrel;by_cases h4:i<4
  ·have hix:=fun wx=>alV F i h4 wx;have hd4:decide ((i:Int)<4)=true:=fE;obtain⟨rfl,hown,hbel⟩:=hR;go_wp2;clear hix;go_loopg [5,7] 64 (fun gj v u wi=>∃k x:Nat,k+gj=64/\u=O x/\Lb F i k x/\qB w F many (64*i+k) v wi)
   case atStart=>exact⟨0,wd F i,rfl,rfl,Yn F i,rfl,hown,hbel⟩
   case round=>
    clear hown hbel;obtain⟨k,x,hk,rfl,hL,hR⟩:=hrel;have⟨L,hLd⟩:=aZ ((frees F (64*i+k)).take many);have HL:Hid ((frees F (64*i+k)).take many=L):=hLd;obtain⟨rfl,hown,hbel⟩:=hR;rw[hLd]at hown ⊢;clear hLd;by_cases hx:x=0
    ·subst hx;have R1:Hid (qB w F many (64*(i+1)) (.slice (some ⟨w.heap.size,0,none⟩) L.length many) wr):=ahA (N:=64*i+k) (by unfold qB;rw[HL.out];exact⟨rfl,hown,hbel⟩) (by rw[acC F i k ak hL]);exact aoo
    ·by_cases hlen:L.length<many
     ·have⟨s1,s2,s3,s4⟩:=left_step F i k x ak hL hx;have hT:=sS hbel h.tab;have hxl:=hL.lt;have hxs:IntKind.u64.wrap ((x:Int) - 1)=((x - 1:Nat):Int):=(by rw[d_];omega);have hxa:=Nz x (x - 1) hL.lt ak;have HS:Hid (frees F (64*i+(Lib.ctz 64 x+1))=frees F (64*i+k)++ [64*i+Lib.ctz 64 x]):=s3;clear s3;go_wp2_with (first | (go_at_call 295;refine(aqM x hxl hx _ hT).mono ?_;rintro e w' ⟨rfl,rfl⟩) | (at_builtin;refine wpList_append_fits _ rfl (.tmp 26) (.tmp 32) 36 rfl w.heap.size 3 i0 1 underlying36 hi hz1 w.heap.size L.length many _ rfl (hown.alloc _) ⟨_,0,none⟩ 1 1 [J ((i:Int)*64+(Lib.ctz 64 x:Nat))] rfl rfl (Co _ _ _) (by intro u hu;simp at hu;subst hu;rfl) ak ?_;intro w2 hown2 hgrow2))
      have R1:=alW HL.out ak HS.out hlen hbel hown2 hgrow2;go_roundg (64 - (Lib.ctz 64 x+1))
      case measure=>omega
      case rel=>exact⟨Lib.ctz 64 x+1,x &&& (x - 1),by omega,rfl,s4,R1⟩
     ·have R1:Hid (qB w F many (64*(i+1)) (.slice (some ⟨w.heap.size,0,none⟩) L.length many) wr):=ahA (N:=64*i+k) (by unfold qB;rw[HL.out];exact⟨rfl,hown,hbel⟩) (by rw[show 64*(i+1)=64*i+k+(64 - k) by omega,acH F _ _ many (by rw[HL.out];exact hlen)])
      exact aoo
  ·have hi':i=4:=ak;subst hi';have HR:Hid (qB w F many 256 _ wr):=hR;obtain⟨rfl,hown,hbel⟩:=hR;go_wp2;go_ret;exact⟨rfl,HR.out.2⟩
end N2
namespace N2
open Go.RowKit Nd
namespace Nd
def rU (F:Nat) (f:Nat->Int):Nat->Nat
 | 0=>F
 | m+1=>rU F f m ^^^ 2^(f m).toNat
def mq (n:Nat) (f:Nat->Int):Nat->Bool
 | 0=>true
 | m+1=>mq n f m&&(decide (0<=f m)&&decide (f m<n))&&(decide (m=0)||decide (f (m - 1)<f m))
def aay (n:Nat) (f:Nat->Int) (k d:Nat) (h:mq n f k=false):mq n f (k+d)=false:=by
 induction d with
 | zero=>omega
 | succ d ih=>grind[mq]
def alY (n:Nat) (f:Nat->Int) (m:Nat) (h:mq n f m=true) (j:Nat) (hj:j<m):0<=f j/\f j<n:=by
 induction m with
 | zero=>omega
 | succ m ih=>grind[mq]
def rz (F:Nat) (f:Nat->Int) (fr:Bool):Nat->Bool
 | 0=>true
 | m+1=>rz F f fr m&&((decide (0<=f m)&&F.testBit (f m).toNat)==fr)
def aaz (F:Nat) (f:Nat->Int) (fr:Bool) (k d:Nat) (h:rz F f fr k=false):rz F f fr (k+d)=false:=by
 induction d with
 | zero=>omega
 | succ d ih=>grind[rz]
end Nd
def an5 {a b:Bool} (h:a=b):Ending.returned (.bool a)=.returned (.bool b):=by rw[h]
def Ia (b n F g o m cap:Nat) (ao:Option Addr) (f:Nat->Int) (w:ay) (h:fH w b n F) (hao:0<m->ao=some ⟨g,o,none⟩) (hgb:g≠b) (hm:m<=140737488355328)
  (hc:∀j,j<m->w.cell? ⟨g,o+j,none⟩=some (J (f j))) (hf:∀j,j<m->0<=f j/\f j<n):
  Calls prog 183 #[.pointer (some ⟨b,0,none⟩),.slice ao m cap] w fun e w'=>e=.returned (.tuple #[])/\fH w' b n (rU F f m)/\w.grownBy w' (some b):=by
 go_enter func183,ntmps183;go_wp2;go_loopg [8] m (fun gk c wr=>∃k:Nat,k+gk=m/\c=J k/\fH wr b n (rU F f k)/\w.grownBy wr (some b))
 case atStart=>exact⟨0,by omega,rfl,h,Q8 _ _⟩
 case round=>
  obtain⟨k,hk,rfl,hs,hg⟩:=hrel;by_cases hlt:k<m
  ·have ha:=hao ak;subst ha;have hck:=hg.cell (hc k hlt) (fun e=>hgb (ji e));obtain⟨q,hq⟩:∃q:Nat,f k=q:=⟨(f k).toNat,by have:=hf k hlt;omega⟩;have hqn:q<n:=(by have:=hf k hlt;omega);have HQ:Hid (f k=q):=hq;rw[hq]at hck;clear hq;go_wp2_with (go_at_call 135;refine(UO b n _ q _ hs hqn).mono ?_;rintro e w' ⟨rfl,hs',hg'⟩)
   go_roundg (m - (k+1))
   case measure=>omega
   case rel=>exact⟨k+1,by omega,by go_num,by rw[rU,HQ.out];exact hs',UM hg hg'⟩
  ·have e:k=m:=ak;subst e;go_wp2;go_end0
   exact⟨rfl,hs,hg⟩
def OJ (b n F g o m cap:Nat) (ao:Option Addr) (f:Nat->Int) (w:ay) (h:fH w b n F) (hao:0<m->ao=some ⟨g,o,none⟩) (hm:m<=140737488355328)
  (hc:∀j,j<m->w.cell? ⟨g,o+j,none⟩=some (J (f j))):
  Calls prog 181 #[.pointer (some ⟨b,0,none⟩),.slice ao m cap] w fun e w'=>e=.returned (.bool (mq n f m))/\w'=w:=by
 go_enter func181,ntmps181;go_wp2;go_loopg [9] m (fun gk c wr=>∃k:Nat,k+gk=m/\c=J k/\mq n f k=true/\wr=w)
 case atStart=>exact⟨0,by omega,rfl,rfl,rfl⟩
 case round=>
  obtain⟨k,hk,rfl,hs,rfl⟩:=hrel;by_cases hlt:k<m
  ·have ha:=hao ak;subst ha;have hck:=hc k hlt
   cases hB:isB n (f k)with
   | false=>
    have HN:Hid (mq n f m=false):=by rw[show m=k+1+(m - (k+1)) by omega];apply aay;have:(decide (0<=f k)&&decide (f k<n))=false:=hB;rw[mq,this];simp
    exact an4
   | true=>
    have hB':(decide (0<=f k)&&decide (f k<n))=true:=hB;by_cases hk0:k=0
    ·subst hk0;have HY:Hid (mq n f (0+1)=true):=(by simp only[Hid,mq,hB'];rfl);have hc0:wr.cell? ⟨g,o,none⟩=some (J (f 0)):=(by simpa using hck);clear hB' hck;go_wp2_with (go_at_call 221;refine(tK b n F _ _ h).mono ?_;rintro e w' ⟨rfl,rfl⟩;rw[hB])
     go_roundg (m - 1)
     case measure=>omega
     case rel=>exact⟨1,by omega,by go_num,HY.out,rfl⟩
    ·obtain ⟨j,rfl⟩:∃j,k=j+1:=⟨k - 1,by omega⟩;have hcj:=hc j ak;by_cases hle:f (j+1)<=f j
     ·have HN:Hid (mq n f m=false):=by rw[show m=j+1+1+(m - (j+1+1)) by omega];apply aay;rw[mq];simp;intro _ _ _;omega
      clear hB';exact an4
     ·have HY:Hid (mq n f (j+1+1)=true):=by show mq n f (j+1+1)=true;rw[mq,hs,hB'];simp;omega
      clear hB';go_wp2_with (go_at_call 221;refine(tK b n F _ _ h).mono ?_;rintro e w' ⟨rfl,rfl⟩;rw[hB])
      go_roundg (m - (j+2))
      case measure=>omega
      case rel=>exact⟨j+2,by omega,by go_num,HY.out,rfl⟩
  ·have e:k=m:=ak;subst e;go_wp2;go_ret;exact⟨an5 hs.symm,rfl⟩
namespace Nd
def wS (n F:Nat) (f:Nat->Int) (m:Nat) (fr:Bool):Int:=if mq n f m then(if rz F f fr m then 0 else 21)else 22
def rV (n F:Nat) (f:Nat->Int) (m:Nat) (fr:Bool):Nat:=if mq n f m then(if rz F f fr m then rU F f m else F)else F
end Nd
def ahB (b n F g o m cap:Nat) (ao:Option Addr) (f:Nat->Int) (fr:Bool) (w:ay) (h:fH w b n F) (hao:0<m->ao=some ⟨g,o,none⟩) (hgb:g≠b) (hm:m<=140737488355328)
  (hc:∀j,j<m->w.cell? ⟨g,o+j,none⟩=some (J (f j))):
  Calls prog 136 #[.pointer (some ⟨b,0,none⟩),.slice ao m cap,.bool fr] w fun e w'=>e=.returned (J (wS n F f m fr))/\fH w' b n (rV n F f m fr)/\w.grownBy w' (some b):=by
 cases hS:mq n f m with
 | false=>
  have e1:wS n F f m fr=22:=by simp[wS,hS]
  have e2:rV n F f m fr=F:=by simp[rV,hS]
  rw[e1,e2];go_enter func136,ntmps136;go_wp2_with (go_at_call 181;refine(OJ b n F g o m cap ao f _ h hao hm hc).mono ?_;rintro e w' ⟨rfl,rfl⟩;rw[hS])
  go_ret;exact⟨rfl,h,Q8 _ _⟩
 | true=>
  have HE:Hid ((rz F f fr m=true->wS n F f m fr=0/\rV n F f m fr=rU F f m)/\(rz F f fr m=false->wS n F f m fr=21/\rV n F f m fr=F)):=
   ⟨fun e=>by simp[wS,rV,hS,e],fun e=>by simp[wS,rV,hS,e]⟩
  go_enter func136,ntmps136;go_wp2_with (go_at_call 181;refine(OJ b n F g o m cap ao f _ h hao hm hc).mono ?_;rintro e w1 ⟨rfl,rfl⟩;rw[hS])
  go_loopg [15] m (fun gk c wr=>∃k:Nat,k+gk=m/\c=J k/\rz F f fr k=true/\wr=w1)
  case atStart=>exact⟨0,by omega,rfl,rfl,rfl⟩
  case round=>
   obtain⟨k,hk,rfl,hs,rfl⟩:=hrel;by_cases hlt:k<m
   ·have ha:=hao ak;subst ha;have hck:=hc k hlt
    cases hB:hasB F (f k)==fr with
    | false=>
     have HN:Hid (rz F f fr m=false):=by rw[show m=k+1+(m - (k+1)) by omega];apply aaz;have:((decide (0<=f k)&&F.testBit (f k).toNat)==fr)=false:=hB;rw[rz,this];simp
     go_wp2_with (go_at_call 182;refine(Eu b n F _ _ h).mono ?_;rintro e w' ⟨rfl,rfl⟩)
     go_ret;exact⟨aaw (HE.out.2 HN.out).1.symm,by rw[(HE.out.2 HN.out).2];exact h,Q8 _ _⟩
    | true=>
     have HY:Hid (rz F f fr (k+1)=true):=by have:((decide (0<=f k)&&F.testBit (f k).toNat)==fr)=true:=hB;show rz F f fr (k+1)=true;rw[rz,this,hs];rfl
     go_wp2_with (go_at_call 182;refine(Eu b n F _ _ h).mono ?_;rintro e w' ⟨rfl,rfl⟩)
     go_roundg (m - (k+1))
     case measure=>omega
     case rel=>exact⟨k+1,by omega,by go_num,HY.out,rfl⟩
   ·have e:k=m:=ak;subst e;have hf:=alY n f k hS;have HA:Hid (rz F f fr k=true):=hs;clear hs hS;go_wp2_with (go_at_call 183;refine(Ia b n F g o k cap ao f _ h hao hgb hm hc hf).mono ?_;rintro e w2 ⟨rfl,hs2,hg2⟩)
    go_ret;exact⟨aaw (HE.out.1 HA.out).1.symm,by rw[(HE.out.1 HA.out).2];exact hs2,hg2⟩
def UR (b n F g o m cap:Nat) (ao:Option Addr) (f:Nat->Int) (w:ay) (h:fH w b n F) (hao:0<m->ao=some ⟨g,o,none⟩) (hgb:g≠b) (hm:m<=140737488355328)
  (hc:∀j,j<m->w.cell? ⟨g,o+j,none⟩=some (J (f j))):
  Calls prog 145 #[.pointer (some ⟨b,0,none⟩),.slice ao m cap] w fun e w'=>e=.returned (J (wS n F f m false))/\fH w' b n (rV n F f m false)/\w.grownBy w' (some b):=by
 go_enter func145,ntmps145;go_wp2_with (go_at_call 136;refine(ahB b n F g o m cap ao f false _ h hao hgb hm hc).mono ?_;rintro e w2 ⟨rfl,hs2,hg2⟩)
 go_ret;exact⟨rfl,hs2,hg2⟩
end N2
namespace N2
open Go.RowKit Nd
namespace Nd
def nth (l:List Nat) (j:Nat):Int:=(l.getD j 0:Nat)
theorem Lc (l:List Nat) (j:Nat) (h:j<l.length):nth l j=(l[j]:Int):=by grind[nth]
def pO (F many:Nat):Nat:=rU F (nth ((mI F).take many)) many
def au1 (n k:Nat):(2^n - 1).testBit k=decide (k<n):=Nat.testBit_two_pow_sub_one n k
def acI (k:Nat):(2^k - 1) ^^^ 2^k=2^(k+1) - 1:=by
 apply JM;grind
end Nd
def acJ {base g n cap:Nat} {l:List Nat} (h:w.ownsRow base 3 1 (.slice (some ⟨g,0,none⟩) n cap) n (vals l)) (j:Nat) (hj:j<l.length):w.cell? ⟨g,0+j,none⟩=some (J (nth l j)):=by
 have:=h.cells (g:=g) rfl j (J (nth l j)) (by grind[vals,Lc]);grind[Addr.add]
def azW (n:Int) (w:ay) (h:n<1\/256<n):Calls prog 80 #[J n] w fun e w'=>e=.returned (.tuple #[.pointer none,J 20])/\w'=w:=by
 by_cases h1:n<1
 ·go_enter func80,ntmps80;exact FI
 ·have h2:256<n:=ak;go_enter func80,ntmps80;exact FI
def alZ (n:Nat) (w:ay) (h1:1<=n) (h2:n<=256) (hT:Tab w):fH (w.alloc (.cells #[J n,O 0,O 0,O 0,O 0] 194)) w.heap.size n 0:=by
 have hz:4<w.heap.size:=aU w ⟨4,0,none⟩ (hT 0 aT);exact⟨sS dY hT,by omega,by grind[aK,setCells,wd],h1,h2,Nat.two_pow_pos n⟩
def al0 (n:Nat) (w:ay) (h1:1<=n) (h2:n<=256) (hT:Tab w):Calls prog 80 #[J n] w fun e w'=>e=.returned (.tuple #[.pointer (some ⟨w.heap.size,0,none⟩),J 0])/\fH w' w.heap.size n (2^n - 1)/\Z w w':=by
 have HS:Hid _:=alZ n w h1 h2 hT;go_enter func80,ntmps80;go_wp2;go_loopg [16] n (fun gk c wr=>∃k:Nat,k+gk=n/\c=J k/\fH wr w.heap.size n (2^k - 1)/\Z w wr)
 case atStart=>exact⟨0,by omega,rfl,HS.out,dY⟩
 case round=>
  obtain⟨k,hk,rfl,hs,hb⟩:=hrel;by_cases hlt:k<n
  ·go_wp2_with (go_at_call 135;refine(UO w.heap.size n _ k _ hs hlt).mono ?_;rintro e w' ⟨rfl,hs',hg'⟩;rw[acI]at hs')
   go_roundg (n - (k+1))
   case measure=>omega
   case rel=>exact⟨k+1,by omega,by go_num,hs',hb.grown hg' hb.size (fun j hj=>by simp at hj;omega)⟩
  ·have e:k=n:=ak;subst e;go_wp2;go_ret2
   exact⟨rfl,hs,hb⟩
def al1 (b n F many:Nat) (w:ay) (h:fH w b n F) (h1:1<=many) (h2:many<=(mI F).length):Calls prog 236 #[.pointer (some ⟨b,0,none⟩),J many] w fun e w'=>
  e=.returned (.tuple #[.slice (some ⟨w.heap.size,0,none⟩) many many,J 0])/\w'.ownsRow w.heap.size 3 1 (.slice (some ⟨w.heap.size,0,none⟩) many many) many (vals ((mI F).take many))/\fH w' b n (pO F many)/\w.grownBy w' (some b):=by
 have hl:=alX b n F many w h (bM h2 (Q5 F));have hlen:((mI F).take many).length=many:=fE;rw[hlen]at hl;have HL:Hid (((mI F).take many).length=many):=hlen;clear hlen;have hbz:=h.lt;go_enter func236,ntmps236;go_wp2_with (first | (go_at_call 119;refine(Ey b n F _ h).mono ?_;rintro e w' ⟨rfl,rfl⟩) | (go_at_call 277;refine hl.mono ?_;rintro e w1 ⟨rfl,ho,hb⟩) | fail)
 have hs1:=h.below hb;have hf:∀j,j<many->0<=nth ((mI F).take many) j/\nth ((mI F).take many) j<n:=by
  intro j hj;have hj':j<((mI F).take many).length:=by rw[HL.out];exact hj
  rw[Lc _ j hj'];have hmem:=JU (tH hj');have hb2:=((Bd F 256 _).1 hmem).2;refine⟨by omega,?_⟩;by_cases hlt:((mI F).take many)[j]<n
  ·omega
  ·rw[h.bit _ ak]at hb2;exact absurd hb2 dF
 have Yo:=Q5 F;refine(Ia b n F _ 0 many many _ (nth ((mI F).take many)) _ hs1 (fun _=>rfl) ak ak (fun j hj=>acJ ho j (by rw[HL.out];exact hj)) hf).mono ?_;rintro e w2 ⟨rfl,hs2,hg2⟩;clear hf;go_wp2;go_ret2
 exact⟨rfl,ho.kept hg2 (by simp[Value.ownBlock];omega),hs2,UM (UN hb _) hg2⟩
def Ez (xs:List Int) (j:Nat):Int:=xs.getD j 0
def aN (w:ay) (q:Nat):Z w (w.drewN q):=⟨rfl,rfl,rfl,aC _,fun _ _=>rfl⟩
end N2
namespace N2
namespace Nd
theorem acK (F x:Nat) (f:Nat->Int) (m:Nat):rU (F ^^^ x) f m=rU F f m ^^^ x:=by
 induction m with
 | zero=>rfl
 | succ m ih=>grind[rU]
theorem UU (F:Nat) (f:Nat->Int) (m:Nat):rU (rU F f m) f m=F:=by
 induction m with
 | zero=>rfl
 | succ m ih=>grind[rU,acK]
theorem Gj (F:Nat) (l:List Nat) (hn:l.Nodup) (m:Nat) (hm:m<=l.length) (k:Nat):(rU F (nth l) m).testBit k=(F.testBit k ^^ decide (k∈l.take m)):=by
 induction m with
 | zero=>simp[rU]
 | succ m ih=>grind[nth,List.mem_take_iff_getElem,tF,rU]
theorem UW (F:Nat):(mI F).Pairwise (· < ·):=Ym F 256
theorem acL (F:Nat):(mI F).Nodup:=(UW F).imp (fun h=>by omega)
theorem UY (F many:Nat) (h:many<=(mI F).length) (k:Nat):(pO F many).testBit k=(F.testBit k ^^ decide (k∈(mI F).take many)):=by
 grind[pO,Gj,acL]
def acM (n F many:Nat) (htop:∀k,n<=k->F.testBit k=false) (m:Nat) (hm:m<=((mI F).take many).length):mq n (nth ((mI F).take many)) m=true:=by
 induction m with
 | zero=>rfl
 | succ m ih=>grind[mI,Bd,tH,mq,Lc,tF,UW]
theorem Jw (F:Nat) (f:Nat->Int) (fr:Bool) (m:Nat) (h:∀j,j<m->(decide (0<=f j)&&F.testBit (f j).toNat)=fr):rz F f fr m=true:=by
 induction m with
 | zero=>rfl
 | succ m ih=>grind[rz]
theorem UZ (F:Nat) (f:Nat->Int) (fr:Bool) (m:Nat) (hm:1<=m) (h:(decide (0<=f 0)&&F.testBit (f 0).toNat)= !fr):rz F f fr m=false:=by
 rw[show m=1+(m - 1) by omega];apply aaz;grind[rz]
theorem free_at (F many j:Nat) (hj:j<((mI F).take many).length):(decide (0<=nth ((mI F).take many) j)&&F.testBit (nth ((mI F).take many) j).toNat)=true:=by
 grind[Bd,tH,Lc,mI]
theorem U3 (F many j:Nat) (h:many<=(mI F).length) (hj:j<((mI F).take many).length):(decide (0<=nth ((mI F).take many) j)&&(pO F many).testBit (nth ((mI F).take many) j).toNat)=false:=by
 grind[tH,Bd,Lc,UY,mI]
theorem ends (n F many:Nat) (htop:∀k,n<=k->F.testBit k=false) (h1:1<=many) (h:many<=(mI F).length):
  wS n (pO F many) (nth ((mI F).take many)) many true=21/\rV n (pO F many) (nth ((mI F).take many)) many true=pO F many/\
  wS n (pO F many) (nth ((mI F).take many)) many false=0/\rV n (pO F many) (nth ((mI F).take many)) many false=F/\
  wS n F (nth ((mI F).take many)) many false=21/\rV n F (nth ((mI F).take many)) many false=F/\
  wS n F (nth ((mI F).take many)) many true=0/\rV n F (nth ((mI F).take many)) many true=pO F many:=by
 have hl:((mI F).take many).length=many:=by grind
 have s:=acM n F many htop many ak;have a1:rz (pO F many) (nth ((mI F).take many)) true many=false:=by grind[UZ,U3]
 have a2:rz (pO F many) (nth ((mI F).take many)) false many=true:=by grind[Jw,U3]
 have a3:rz F (nth ((mI F).take many)) false many=false:=by grind[UZ,free_at]
 have a4:rz F (nth ((mI F).take many)) true many=true:=Jw _ _ _ _ (fun j hj=>free_at F many j ak);grind[pO,UU,wS,rV]
end Nd
end N2
end Go.Proofs.YtdhifkbbjlhcaaaGreatDoor

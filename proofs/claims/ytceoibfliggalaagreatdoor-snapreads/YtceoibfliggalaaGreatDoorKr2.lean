/-
  TEXTS: Mth, Wid.
-/
import Derived.Laws.Bits64b
import Derived.Test.YtceoibfliggalaaGreatDoorChecked
import Derived.KernelRfl
import Derived.RowKit
import Derived.WalkKit
import Derived.WalkSpells
import Derived.WalkLawsBesides
import Derived.Lib.Tables
import Derived.Laws.Externs
import Derived.Shelf.Spec.BitsCarry
import Derived.Deep.RegionHeld3
import Derived.Deep.QuietTactic
import Derived.BigQuiet
import Derived.RowKit3
namespace Go.Proofs.YtceoibfliggalaaGreatDoor.Wd
def Word (x:Int):Prop:=0≤x∧x<18446744073709551616
def val (h l:Int):Int:=h*18446744073709551616+l
def hiW (v:Int):Int:=v / 18446744073709551616
def loW (v:Int):Int:=v % 18446744073709551616
def top:Int:=340282366920938463463374607431768211455
def Num (v:Int):Prop:=0≤v∧v≤top
def addV (a b:Int):Int:=if a+b≤top then a+b else top
def addB (a b:Int):Bool:=decide (a+b≤top)
def timV (a b:Int):Int:=if a*b≤top then a*b else top
def timB (a b:Int):Bool:=decide (a*b≤top)
def cmpV (a b:Int):Int:=if a<b then -1 else if a=b then 0 else 1
def divV (a b:Int):Int:=if b=0 then 0 else a / b
def remV (a b:Int):Int:=if b=0 then 0 else a % b
def divB (b:Int):Bool:=decide (b≠0)
def shlV (a n:Int):Int:=if n<0 then a else(a*2^n.toNat) % 340282366920938463463374607431768211456
theorem val_num {h l:Int} (hh:Word h) (hl:Word l):Num (val h l):=by
 obtain⟨a,b⟩:=hh;obtain⟨c,d⟩:=hl
 unfold Num val top;omega
theorem val_words (v:Int):val (hiW v) (loW v)=v:=by
 unfold val hiW loW;omega
theorem lo_word (v:Int):Word (loW v):=by unfold Word loW;omega
theorem hi_word {v:Int} (h:Num v):Word (hiW v):=by
 obtain⟨a,b⟩:=h;unfold top at b;unfold Word hiW;omega
theorem mul_num {a b:Int} (ha:Word a) (hb:Word b):Num (a*b):=by
 obtain⟨a0,a1⟩:=ha;obtain⟨b0,b1⟩:=hb
 refine⟨Int.mul_nonneg a0 b0,?_⟩
 have h:a*b≤18446744073709551615*18446744073709551615:=Int.mul_le_mul (by omega) (by omega) b0 (by omega)
 unfold top;omega
end Go.Proofs.YtceoibfliggalaaGreatDoor.Wd
namespace Go.Proofs.YtceoibfliggalaaGreatDoor.Wd
theorem hi_small {r:Int} (h:Word r):hiW r=0∧loW r=r:=by
 obtain⟨_,_⟩:=h;unfold hiW loW;omega
def narV (v:Int):Int:=if v<18446744073709551616 then v else 18446744073709551615
def narB (v:Int):Bool:=decide (v<18446744073709551616)
def ceilV (u b:Int):Int:=if u % b=0 then u / b else u / b+1
def dnV (u b:Int):Int:=if b=0 then 18446744073709551615 else narV (u / b)
def dnB (u b:Int):Bool:=if b=0 then false else narB (u / b)
def upV (u b:Int):Int:=if b=0 then 18446744073709551615 else narV (ceilV u b)
def upB (u b:Int):Bool:=if b=0 then false else narB (ceilV u b)
theorem nar_hi {u:Int} (hu:Num u) (h:hiW u=0):narV u=loW u∧narB u=true:=by
 obtain⟨a,b⟩:=hu
 unfold hiW at h
 have:u<18446744073709551616:=by omega
 refine⟨?_,by simp [narB,this]⟩
 unfold narV loW;rw [if_pos this];omega
theorem nar_no {u:Int} (hu:Num u) (h:hiW u≠0):narV u=18446744073709551615∧narB u=false:=by
 obtain⟨a,b⟩:=hu
 unfold hiW at h
 have:¬u<18446744073709551616:=by omega
 exact⟨by unfold narV;rw [if_neg this],by simp [narB];omega⟩
theorem div_facts {u b:Int} (hu:Num u) (hb:Word b) (h:b≠0):
  divV u b=u / b∧remV u b=u % b∧divB b=true∧Num (u / b)∧0≤u % b∧u % b<b∧u / b*b+u % b=u∧timV (u / b) b=u / b*b:=by
 obtain⟨a0,a1⟩:=hu;obtain⟨b0,b1⟩:=hb
 have q0:=Int.ediv_nonneg a0 b0
 have q1:=Int.ediv_le_self b a0
 have m0:=Int.emod_nonneg u h
 have m1:=Int.emod_lt_of_pos u (show 0<b by omega)
 have e:=Int.mul_ediv_add_emod u b
 rw [Int.mul_comm]at e
 refine⟨by unfold divV;rw [if_neg h],by unfold remV;rw [if_neg h],by simp [divB,h],⟨q0,by omega⟩,m0,m1,e,?_⟩
 unfold timV;rw [if_pos (by omega)]
theorem div_more {u b:Int} (hu:Num u) (hb:Word b) (h:b≠0) (hm:u % b≠0):addV (u / b) 1=u / b+1∧Num (u / b+1):=by
 obtain⟨_,_,_,⟨q0,q1⟩,m0,m1,e,_⟩:=div_facts hu hb h
 obtain⟨a0,a1⟩:=hu;obtain⟨b0,b1⟩:=hb
 have b2:2≤b:=by omega
 have h2:u / b*2≤u / b*b:=Int.mul_le_mul_of_nonneg_left b2 q0
 have h3:u / b+1≤top:=by unfold top at *;omega
 exact⟨by unfold addV;rw [if_pos h3],by omega,h3⟩
theorem words_ne {u v:Int} (h:u≠v):¬(hiW u=hiW v∧loW u=loW v):=by
 rintro ⟨a,b⟩
 exact h (by rw [← val_words u,←val_words v,a,b])
end Go.Proofs.YtceoibfliggalaaGreatDoor.Wd
namespace Go.Proofs.YtceoibfliggalaaGreatDoor.Wd
theorem div_one {a:Int} (ha:Word a):dnV (a*4294967296) 4294967296=a∧dnB (a*4294967296) 4294967296=true:=by
 obtain⟨a0,a1⟩:=ha
 have e:a*4294967296 / 4294967296=a:=Int.mul_ediv_cancel _ (by omega)
 refine⟨?_,?_⟩
 ·unfold dnV narV;rw [if_neg (by omega),e,if_pos a1]
 ·unfold dnB narB;rw [if_neg (by omega),e];simp [a1]
end Go.Proofs.YtceoibfliggalaaGreatDoor.Wd
namespace Go.Proofs.YtceoibfliggalaaGreatDoor.Wd
theorem pow_pos' (k:Nat):(1:Int)≤2^k:=by
 have:0<(2:Nat)^k:=Nat.two_pow_pos k
 have h:((2^k:Nat):Int)=(2:Int)^k:=by simp
 omega
theorem pow_split (k:Nat) (h:k≤64):(2:Int)^k*2^(64 - k)=18446744073709551616:=by
 rw [← Int.pow_add,show k+(64 - k)=64 by omega];rfl
theorem shl_words {ah al P Q:Int} (h1:Word ah) (h2:Word al) (hP:1≤P) (hQ:1≤Q) (hM:P*Q=18446744073709551616):
  ∃u,(ah*P) % 18446744073709551616=P*u∧0≤u∧P*u+al / Q<18446744073709551616∧0≤P*u∧0≤al / Q∧al / Q<P∧
   P*u+al / Q=hiW ((val ah al*P) % 340282366920938463463374607431768211456)∧(al*P) % 18446744073709551616=loW ((val ah al*P) % 340282366920938463463374607431768211456):=by
 obtain⟨a0,a1⟩:=h1;obtain⟨b0,b1⟩:=h2
 have ea:ah*P=ah / Q*18446744073709551616+P*(ah % Q):=by
  have e:ah=ah / Q*Q+ah % Q:=by have:=Int.mul_ediv_add_emod ah Q;rw [Int.mul_comm Q]at this;omega
  calc ah*P=(ah / Q*Q+ah % Q)*P:=by rw [← e]
   _=ah / Q*(P*Q)+P*(ah % Q):=by rw [Int.add_mul,Int.mul_assoc,Int.mul_comm Q P,Int.mul_comm (ah % Q) P]
   _=_:=by rw [hM]
 have eb:al*P=al / Q*18446744073709551616+P*(al % Q):=by
  have e:al=al / Q*Q+al % Q:=by have:=Int.mul_ediv_add_emod al Q;rw [Int.mul_comm Q]at this;omega
  calc al*P=(al / Q*Q+al % Q)*P:=by rw [← e]
   _=al / Q*(P*Q)+P*(al % Q):=by rw [Int.add_mul,Int.mul_assoc,Int.mul_comm Q P,Int.mul_comm (al % Q) P]
   _=_:=by rw [hM]
 have ra0:=Int.emod_nonneg ah (show Q≠0 by omega)
 have ra1:=Int.emod_lt_of_pos ah (show 0<Q by omega)
 have rb0:=Int.emod_nonneg al (show Q≠0 by omega)
 have rb1:=Int.emod_lt_of_pos al (show 0<Q by omega)
 have u0:0≤P*(ah % Q):=Int.mul_nonneg (by omega) ra0
 have t0:0≤P*(al % Q):=Int.mul_nonneg (by omega) rb0
 have u1:P*(ah % Q)≤18446744073709551616 - P:=by
  have h:=Int.mul_le_mul_of_nonneg_left (show ah % Q≤Q - 1 by omega) (show 0≤P by omega)
  rw [Int.mul_sub,hM]at h;omega
 have t1:P*(al % Q)≤18446744073709551616 - P:=by
  have h:=Int.mul_le_mul_of_nonneg_left (show al % Q≤Q - 1 by omega) (show 0≤P by omega)
  rw [Int.mul_sub,hM]at h;omega
 have v0:0≤al / Q:=Int.ediv_nonneg b0 (by omega)
 have v1:al / Q<P:=Int.ediv_lt_of_lt_mul (by omega) (by rw [hM];omega)
 have ev:val ah al*P=ah*P*18446744073709551616+al*P:=by unfold val;rw [Int.add_mul,Int.mul_right_comm]
 rw [ev,ea,eb]
 refine⟨ah % Q,?_,ra0,?_,u0,v0,v1,?_,?_⟩<;>(try simp only [hiW,loW])<;>
  (generalize P*(ah % Q)=u at *;generalize P*(al % Q)=t at *;generalize al / Q=v at *;generalize ah / Q=s at *;omega)
theorem or_plus (k:Nat) {u v:Int} (hu:0≤u) (hv:0≤v) (hv':v<2^k) (h:2^k*u+v<18446744073709551616):
  bits .or .u64 (2^k*u) v=2^k*u+v∧bits .or .u64 v (2^k*u)=2^k*u+v:=by
 obtain⟨u,rfl⟩:=Int.eq_ofNat_of_zero_le hu
 obtain⟨v,rfl⟩:=Int.eq_ofNat_of_zero_le hv
 have hp:((2^k:Nat):Int)=(2:Int)^k:=by simp
 have e:(2:Int)^k*(u:Int)=((2^k*u:Nat):Int):=by rw [Int.natCast_mul,hp]
 have hv2:v<2^k:=by omega
 rw [e]at h ⊢
 have o1:2^k*u ||| v=2^k*u+v:=(Nat.two_pow_add_eq_or_of_lt hv2 u).symm
 have o2:v ||| 2^k*u=2^k*u+v:=by rw [Nat.or_comm,o1]
 have l1:2^k*u<18446744073709551616:=by omega
 rw [bits_or_u64_nat _ _ l1 (by omega),bits_or_u64_nat _ _ (by omega) l1,o1,o2]
 constructor<;>omega
theorem shl_small (ah al n:Int) (h1:Word ah) (h2:Word al) (h0:0≤n) (hn:n<64):
  bits .or .u64 (IntKind.u64.wrap (ah*2^n.toNat)) (al / 2^(64 - n).toNat)=hiW (shlV (val ah al) n)∧
  IntKind.u64.wrap (IntKind.u64.wrap (ah*2^n.toNat)+al / 2^(64 - n).toNat)=hiW (shlV (val ah al) n)∧
  IntKind.u64.wrap (al*2^n.toNat)=loW (shlV (val ah al) n):=by
 have e:(64 - n).toNat=64 - n.toNat:=by omega
 rw [e]
 obtain⟨u,e1,u0,e2,p0,v0,v1,e3,e4⟩:=shl_words h1 h2 (pow_pos' n.toNat) (pow_pos' (64 - n.toNat)) (pow_split n.toNat (by omega))
 have es:shlV (val ah al) n=(val ah al*2^n.toNat) % 340282366920938463463374607431768211456:=by unfold shlV;rw [if_neg (by omega)]
 rw [es,IntKind.wrap_u64,IntKind.wrap_u64,IntKind.wrap_u64,e1]
 refine⟨by rw [(or_plus _ u0 v0 v1 e2).1];exact e3,?_,e4⟩
 rw [← e3];omega
end Go.Proofs.YtceoibfliggalaaGreatDoor.Wd
namespace Go.Proofs.YtceoibfliggalaaGreatDoor.Wd
def Digit (U c p z:Int):Prop:=2147483648≤p∧p<4294967296∧0≤z∧z<4294967296∧0≤c∧c<4294967296∧0≤U∧U<p*4294967296+z
def dig (U c p z:Int):Int:=(U*4294967296+c) / (p*4294967296+z)
def St (U c p z q r:Int):Prop:=r=U - q*p∧0≤r∧r<4294967296∧dig U c p z≤q∧0≤q∧q≤4294967297
theorem dig_nonneg {U c p z:Int} (h:Digit U c p z):0≤dig U c p z:=by
 obtain⟨p0,p1,z0,z1,c0,c1,U0,U1⟩:=h
 exact Int.ediv_nonneg (by omega) (by omega)
theorem dig_lt {U c p z:Int} (h:Digit U c p z):dig U c p z<4294967296:=by
 obtain⟨p0,p1,z0,z1,c0,c1,U0,U1⟩:=h
 exact Int.ediv_lt_of_lt_mul (by omega) (by omega)
theorem k_init {U c p z:Int} (h:Digit U c p z):St U c p z (U / p) (U - U / p*p):=by
 have hd:=h
 obtain⟨p0,p1,z0,z1,c0,c1,U0,U1⟩:=h
 have e:=Int.mul_ediv_add_emod U p
 rw [Int.mul_comm]at e
 have m0:=Int.emod_nonneg U (show p≠0 by omega)
 have m1:=Int.emod_lt_of_pos U (show 0<p by omega)
 refine⟨rfl,by omega,by omega,?_,Int.ediv_nonneg U0 (by omega),?_⟩
 ·rw [Int.le_ediv_iff_mul_le (by omega)]
  have q0:=dig_nonneg hd
  have h1:dig U c p z*(p*4294967296+z)≤U*4294967296+c:=Int.ediv_mul_le _ (by omega)
  have h2:0≤dig U c p z*z:=Int.mul_nonneg q0 z0
  rw [Int.mul_add,←Int.mul_assoc]at h1
  generalize dig U c p z*p=a at *
  generalize dig U c p z*z=b at *
  omega
 ·have:U / p<4294967298:=Int.ediv_lt_of_lt_mul (by omega) (by omega)
  omega
theorem k_eq {U p z q r:Int} (hs:r=U - q*p):q*(p*4294967296+z)=(U - r)*4294967296+q*z:=by
 rw [Int.mul_add,←Int.mul_assoc,show q*p=U - r by omega]
theorem k_false {U c p z q r:Int} (h:Digit U c p z) (hs:St U c p z q r) (hc:q*z≤4294967296*r+c):q=dig U c p z:=by
 obtain⟨p0,p1,z0,z1,c0,c1,U0,U1⟩:=h
 obtain⟨e,r0,r1,ql,q0,q1⟩:=hs
 have:q≤dig U c p z:=by
  unfold dig
  rw [Int.le_ediv_iff_mul_le (by omega),k_eq e]
  generalize q*z=a at *
  omega
 omega
theorem k_true {U c p z q r:Int} (h:Digit U c p z) (hs:St U c p z q r) (hc:4294967296≤q∨4294967296*r+c<q*z):dig U c p z≤q - 1:=by
 have hd:=h
 obtain⟨p0,p1,z0,z1,c0,c1,U0,U1⟩:=h
 obtain⟨e,r0,r1,ql,q0,q1⟩:=hs
 have:dig U c p z<q:=by
  rcases hc with hc | hc
  ·have:=dig_lt hd;omega
  ·apply Int.ediv_lt_of_lt_mul (by omega)
   rw [k_eq e]
   generalize q*z=a at *
   omega
 omega
theorem k_next {U c p z q r:Int} (h:Digit U c p z) (hs:St U c p z q r) (hc:4294967296≤q∨4294967296*r+c<q*z) (hr:r+p<4294967296):St U c p z (q - 1) (r+p):=by
 have ht:=k_true h hs hc
 have hn:=dig_nonneg h
 obtain⟨p0,p1,z0,z1,c0,c1,U0,U1⟩:=h
 obtain⟨e,r0,r1,ql,q0,q1⟩:=hs
 refine⟨?_,by omega,hr,ht,by omega,by omega⟩
 rw [Int.sub_mul];omega
theorem k_break {U c p z q r:Int} (h:Digit U c p z) (hs:St U c p z q r) (hc:4294967296≤q∨4294967296*r+c<q*z) (hr:4294967296≤r+p):q - 1=dig U c p z:=by
 have ht:=k_true h hs hc
 have hn:=dig_nonneg h
 obtain⟨p0,p1,z0,z1,c0,c1,U0,U1⟩:=h
 obtain⟨e,r0,r1,ql,q0,q1⟩:=hs
 have:q - 1≤dig U c p z:=by
  unfold dig
  have e':r+p=U - (q - 1)*p:=by rw [Int.sub_mul];omega
  rw [Int.le_ediv_iff_mul_le (by omega),k_eq e']
  have m:(q - 1)*z≤4294967296*4294967295:=Int.mul_le_mul (by omega) (by omega) z0 (by omega)
  generalize (q - 1)*z=a at *
  omega
 omega
theorem k_rem {U c p z:Int} (h:Digit U c p z):
  IntKind.u64.wrap (IntKind.u64.wrap (IntKind.u64.wrap (U*4294967296)+c) - IntKind.u64.wrap (dig U c p z*(p*4294967296+z)))=(U*4294967296+c) % (p*4294967296+z)∧
  0≤(U*4294967296+c) % (p*4294967296+z)∧(U*4294967296+c) % (p*4294967296+z)<p*4294967296+z:=by
 obtain⟨p0,p1,z0,z1,c0,c1,U0,U1⟩:=h
 have e:=Int.mul_ediv_add_emod (U*4294967296+c) (p*4294967296+z)
 have m0:=Int.emod_nonneg (U*4294967296+c) (show p*4294967296+z≠0 by omega)
 have m1:=Int.emod_lt_of_pos (U*4294967296+c) (show 0<p*4294967296+z by omega)
 refine⟨?_,m0,m1⟩
 have eq:dig U c p z*(p*4294967296+z)=U*4294967296+c - (U*4294967296+c) % (p*4294967296+z):=by
  unfold dig;rw [Int.mul_comm];omega
 rw [eq]
 simp only [IntKind.wrap_u64]
 generalize (U*4294967296+c) % (p*4294967296+z)=m at *
 omega
theorem k_whole {N y P Y U L:Int} (hy:1≤y) (hP:1≤P) (hY:Y=y*P) (hV:N*P=U*18446744073709551616+L) (q1 r1 q0 r0:Int)
  (h1:q1=(U*4294967296+L / 4294967296) / Y) (h2:r1=(U*4294967296+L / 4294967296) % Y) (h3:q0=(r1*4294967296+L % 4294967296) / Y) (h4:r0=(r1*4294967296+L % 4294967296) % Y):
  q1*4294967296+q0=N / y∧r0 / P=N % y:=by
 have hYp:0<Y:=by rw [hY];exact Int.mul_pos (by omega) (by omega)
 have e1:=Int.mul_ediv_add_emod (U*4294967296+L / 4294967296) Y
 have e2:=Int.mul_ediv_add_emod (r1*4294967296+L % 4294967296) Y
 rw [← h1,←h2]at e1
 rw [← h3,←h4]at e2
 have m0:0≤r0:=by rw [h4];exact Int.emod_nonneg _ (by omega)
 have m1:r0<Y:=by rw [h4];exact Int.emod_lt_of_pos _ hYp
 have eV:N*P=(q1*4294967296+q0)*Y+r0:=by
  rw [hV,Int.add_mul,Int.mul_right_comm,Int.mul_comm q1 Y,Int.mul_comm q0 Y]
  omega
 have d1:N*P / Y=q1*4294967296+q0:=by
  rw [eV,Int.add_comm,Int.add_mul_ediv_right _ _ (by omega),Int.ediv_eq_zero_of_lt m0 m1,Int.zero_add]
 have d2:N*P % Y=r0:=by
  rw [eV,Int.add_comm,Int.add_mul_emod_self_right,Int.emod_eq_of_lt m0 m1]
 have c1:N*P / Y=N / y:=by rw [hY,Int.mul_ediv_mul_of_pos_left _ _ (by omega)]
 have c2:N*P % Y=N % y*P:=by rw [hY,Int.mul_comm N P,Int.mul_comm y P,Int.mul_emod_mul_of_pos _ _ (by omega),Int.mul_comm]
 refine⟨by rw [← d1,c1],?_⟩
 rw [← d2,c2,Int.mul_ediv_cancel _ (by omega)]
end Go.Proofs.YtceoibfliggalaaGreatDoor.Wd
namespace Go.Proofs.YtceoibfliggalaaGreatDoor.Ld
def rungs:List Nat:= [13043817825332782212,15511800964685064948,16915738899553466670,17664662643191237676,18051468387014017850,18248035989933441396,18347121020861646923,18396865112328554660,18421787711448657617,18434261669329232139,18440501815349552981,18443622680442407997,18445183311048607331,18445963675871538003,18446353870663572144,18446548971154807801,18446646522174239824,18446695297877410578,18446719685777359790,18446731879739425373,18446737976723480911,18446741025216264367,18446742549462845017,18446743311586182573,18446743692647863158,18446743883178706403,18446743978444128763,18446744026076840128,18446744049893195856,18446744061801373732,18446744067755462673,18446744070732507144]
def R (j:Nat):Nat:=rungs.getD j 0
def steps (f:Nat):Nat→Nat
 | 0=>9223372036854775808
 | k+1=>if f / 2^(31 - k) % 2=1 then steps f k*R k / 18446744073709551616 else steps f k
def halfN (e:Nat):Nat:=if 63≤e / 4294967296 then 0 else steps (e % 4294967296) 32 / 2^(e / 4294967296)
theorem rung_top:∀j,j<32→R j+3<18446744073709551616:=by decide
theorem two_pow_le {a b:Nat} (h:a≤b):2^a≤2^b:=Nat.pow_le_pow_right (by decide) h
theorem steps_top (f k:Nat) (hk:k≤32):steps f k≤9223372036854775808:=by
 induction k with
 | zero=>exact Nat.le_refl _
 | succ k ih=>
  have h:=ih (by omega)
  have hr:=rung_top k (by omega)
  simp only [steps]
  split
  ·have h2:steps f k*R k≤steps f k*18446744073709551616:=Nat.mul_le_mul_left _ (by omega)
   omega
  ·exact h
end Go.Proofs.YtceoibfliggalaaGreatDoor.Ld
namespace Go.Proofs.YtceoibfliggalaaGreatDoor.Cg
structure Cf where
 nodes:Int
 queue:Int
 limit:Int
 age:Int
 fair:Int
 size:Int
 period:Int
 half:Int
structure Rng (c:Cf):Prop where
 n0:1≤c.nodes
 n1:c.nodes≤256
 q0:1≤c.queue
 q1:c.queue≤128
 l0:1≤c.limit
 l1:c.limit≤1048576
 a0:1≤c.age
 a1:c.age≤1048576
 f0:0≤c.fair
 f1:c.fair≤1048576
 s0:0≤c.size
 s1:c.size≤1048576
 p0:1≤c.period
 p1:c.period≤1048576
 h0:1≤c.half
 h1:c.half≤1073741824
def eZ (c:Cf):Int:=c.period*4294967296 / c.half
def upZ (a b:Int):Int:=(a+b - 1) / b
def kZ (c:Cf):Int:=if upZ 8589934592 (eZ c)<2 then 2 else upZ 8589934592 (eZ c)
def cZ (c:Cf):Int:=c.nodes*c.period
def mZ (c:Cf):Int:=cZ c*kZ c
def gZ (c:Cf):Int:=kZ c*(1+upZ (mZ c*81) 2147483648)
def aheadZ (c:Cf):Int:=c.fair+c.size*c.nodes
def leadZ (c:Cf):Int:=aheadZ c / c.age
def boundZ (c:Cf):Int:=leadZ c+1+c.queue*c.limit
def topZ (c:Cf):Int:=c.age*boundZ c+aheadZ c
def offN (c:Cf):Int:=if c.fair=0 then 0 else(258048*gZ c+2*cZ c)*c.fair+cZ c*4294967296
def offD (c:Cf):Int:=if c.fair=0 then 1 else cZ c*4294967296
theorem mul_box {a b A B:Int} (a0:0≤a) (b0:0≤b) (hA:a≤A) (hB:b≤B):0≤a*b∧a*b≤A*B:=
 ⟨Int.mul_nonneg a0 b0,Int.mul_le_mul hA hB b0 (Int.le_trans a0 hA)⟩
theorem e_box {c:Cf} (r:Rng c):4≤eZ c∧eZ c≤4503599627370496:=by
 obtain⟨_,_,_,_,_,_,_,_,_,_,_,_,_,_,_,_⟩:=r
 unfold eZ
 have h1:c.period*4294967296 / c.half≤c.period*4294967296:=Int.ediv_le_self _ (by omega)
 have h2:4≤c.period*4294967296 / c.half:=(Int.le_ediv_iff_mul_le (by omega)).2 (by omega)
 omega
theorem up_box {e:Int} (h:4≤e):0≤upZ 8589934592 e∧upZ 8589934592 e≤2147483648:=by
 unfold upZ
 refine⟨Int.ediv_nonneg (by omega) (by omega),?_⟩
 have:(8589934592+e - 1) / e<2147483649:=Int.ediv_lt_of_lt_mul (by omega) (by omega)
 omega
theorem k_box {c:Cf} (r:Rng c):2≤kZ c∧kZ c≤2147483648:=by
 have h:=up_box (e_box r).1
 unfold kZ
 split<;>omega
theorem c_box {c:Cf} (r:Rng c):1≤cZ c∧cZ c≤268435456:=by
 obtain⟨_,_,_,_,_,_,_,_,_,_,_,_,_,_,_,_⟩:=r
 unfold cZ
 have h1:=mul_box (a:=c.nodes) (b:=c.period) (A:=256) (B:=1048576) (by omega) (by omega) (by omega) (by omega)
 have h2:1*1≤c.nodes*c.period:=Int.mul_le_mul (by omega) (by omega) (by omega) (by omega)
 omega
theorem m_box {c:Cf} (r:Rng c):cZ c*2≤mZ c∧mZ c≤576460752303423488:=by
 have hc:=c_box r
 have hk:=k_box r
 unfold mZ
 have h1:=mul_box (a:=cZ c) (b:=kZ c) (A:=268435456) (B:=2147483648) (by omega) (by omega) (by omega) (by omega)
 have h2:cZ c*2≤cZ c*kZ c:=Int.mul_le_mul_of_nonneg_left (by omega) (by omega)
 omega
theorem g_box {c:Cf} (r:Rng c) (hm:mZ c≤2147483648):0≤upZ (mZ c*81) 2147483648∧upZ (mZ c*81) 2147483648≤81∧0≤gZ c∧gZ c≤176093659136:=by
 have hk:=k_box r
 have hb:=m_box r
 have hc:=c_box r
 have h0:0≤upZ (mZ c*81) 2147483648∧upZ (mZ c*81) 2147483648≤81:=by unfold upZ;omega
 unfold gZ
 have h1:=mul_box (a:=kZ c) (b:=1+upZ (mZ c*81) 2147483648) (A:=2147483648) (B:=82) (by omega) (by omega) (by omega) (by omega)
 omega
theorem ahead_box {c:Cf} (r:Rng c):0≤c.size*c.nodes∧c.size*c.nodes≤268435456∧0≤aheadZ c∧aheadZ c≤269484032:=by
 obtain⟨_,_,_,_,_,_,_,_,_,_,_,_,_,_,_,_⟩:=r
 have h1:=mul_box (a:=c.size) (b:=c.nodes) (A:=1048576) (B:=256) (by omega) (by omega) (by omega) (by omega)
 unfold aheadZ
 omega
theorem lead_box {c:Cf} (r:Rng c):0≤leadZ c∧leadZ c≤269484032:=by
 have h:=ahead_box r
 have ha:=r.a0
 unfold leadZ
 exact⟨Int.ediv_nonneg (by omega) (by omega),Int.le_trans (Int.ediv_le_self _ (by omega)) (by omega)⟩
theorem bound_box {c:Cf} (r:Rng c):0≤c.queue*c.limit∧c.queue*c.limit≤134217728∧1≤boundZ c∧boundZ c≤403701761:=by
 have h:=lead_box r
 obtain⟨_,_,_,_,_,_,_,_,_,_,_,_,_,_,_,_⟩:=r
 have h1:=mul_box (a:=c.queue) (b:=c.limit) (A:=128) (B:=1048576) (by omega) (by omega) (by omega) (by omega)
 unfold boundZ
 omega
theorem top_box {c:Cf} (r:Rng c):0≤c.age*boundZ c∧c.age*boundZ c≤423311977742336∧1≤topZ c∧topZ c≤562949953421312:=by
 have h:=bound_box r
 have h2:=ahead_box r
 obtain⟨_,_,_,_,_,_,_,_,_,_,_,_,_,_,_,_⟩:=r
 have h1:=mul_box (a:=c.age) (b:=boundZ c) (A:=1048576) (B:=403701761) (by omega) (by omega) (by omega) (by omega)
 have h3:1*1≤c.age*boundZ c:=Int.mul_le_mul (by omega) (by omega) (by omega) (by omega)
 unfold topZ
 omega
theorem off_box {c:Cf} (r:Rng c) (hm:mZ c≤2147483648):0≤(258048*gZ c+2*cZ c)*c.fair∧(258048*gZ c+2*cZ c)*c.fair≤47647940505341725245440∧0≤offN c∧offN c≤47649093426846332092416∧1≤offD c∧offD c≤1152921504606846976:=by
 have hg:=g_box r hm
 have hc:=c_box r
 obtain⟨_,_,_,_,_,_,_,_,_,_,_,_,_,_,_,_⟩:=r
 have h1:=mul_box (a:=258048*gZ c+2*cZ c) (b:=c.fair) (A:=45440617089597440) (B:=1048576) (by omega) (by omega) (by omega) (by omega)
 unfold offN offD
 split<;>omega
end Go.Proofs.YtceoibfliggalaaGreatDoor.Cg
namespace Go.Proofs.YtceoibfliggalaaGreatDoor
open Go.RowKit
namespace Wd
theorem mask32 (a:Int) (h:Word a):bits .and .u64 a 4294967295=a % 4294967296:=by
 obtain⟨a0,a1⟩:=h
 obtain⟨m,rfl⟩:=Int.eq_ofNat_of_zero_le a0
 refine(bits_and_u64_nat m 4294967295 (by omega) (by omega)).trans ?_
 rw [show m &&& 4294967295=m % 4294967296 from Nat.and_two_pow_sub_one_eq_mod m 32]
 omega
theorem halves {a b:Int} (a0:0≤a) (a1:a<4294967296) (b0:0≤b) (b1:b<4294967296):0≤a*b∧a*b≤18446744065119617025:=
 have h:a*b≤4294967295*4294967295:=Int.mul_le_mul (by omega) (by omega) b0 (by omega)
 ⟨Int.mul_nonneg a0 b0,h⟩
theorem school (x y:Int):x*y=x / 4294967296*(y / 4294967296)*18446744073709551616+(x / 4294967296*(y % 4294967296)+x % 4294967296*(y / 4294967296))*4294967296+x % 4294967296*(y % 4294967296):=by
 have ex:x=x / 4294967296*4294967296+x % 4294967296:=by omega
 have ey:y=y / 4294967296*4294967296+y % 4294967296:=by omega
 generalize x / 4294967296=a at *
 generalize x % 4294967296=b at *
 generalize y / 4294967296=c at *
 generalize y % 4294967296=d at *
 rw [ex,ey,Int.add_mul,Int.mul_add,Int.mul_add,Int.mul_right_comm a 4294967296 (c*4294967296),←Int.mul_assoc a c 4294967296,Int.mul_right_comm a 4294967296 d,←Int.mul_assoc b c 4294967296]
 omega
end Wd
open Wd
set_option maxHeartbeats 1000000 in
theorem mul64 (x y:Int) (hx:Word x) (hy:Word y) (w:World):
  Calls Tryz.prog 112 #[.int .u64 x,.int .u64 y] w fun e w'=>e=.returned (.tuple #[.int .u64 (hiW (x*y)),.int .u64 (loW (x*y))])∧w'=w:=by
 have mx:=mask32 x hx
 have my:=mask32 y hy
 have e:=school x y
 obtain⟨x0,x1⟩:=hx;obtain⟨y0,y1⟩:=hy
 obtain⟨hh0,hh1⟩:=halves (a:=x / 4294967296) (b:=y / 4294967296) (by omega) (by omega) (by omega) (by omega)
 obtain⟨hl0,hl1⟩:=halves (a:=x / 4294967296) (b:=y % 4294967296) (by omega) (by omega) (by omega) (by omega)
 obtain⟨lh0,lh1⟩:=halves (a:=x % 4294967296) (b:=y / 4294967296) (by omega) (by omega) (by omega) (by omega)
 obtain⟨ll0,ll1⟩:=halves (a:=x % 4294967296) (b:=y % 4294967296) (by omega) (by omega) (by omega) (by omega)
 have mt:=mask32 (x / 4294967296*(y % 4294967296)+x % 4294967296*(y % 4294967296) / 4294967296) ⟨by omega,by omega⟩
 have eh:x / 4294967296*(y / 4294967296)+(x / 4294967296*(y % 4294967296)+x % 4294967296*(y % 4294967296) / 4294967296) / 4294967296+((x / 4294967296*(y % 4294967296)+x % 4294967296*(y % 4294967296) / 4294967296) % 4294967296+x % 4294967296*(y / 4294967296)) / 4294967296=hiW (x*y):=by
  rw [e];unfold hiW;omega
 have el:IntKind.u64.wrap (x*y)=loW (x*y):=IntKind.wrap_u64 _
 have EH:Hid _:=eh
 have EL:Hid _:=el
 clear e eh el
 go_enter Tryz.func112,Tryz.ntmps112
 go_wp2
 rw [EH.out,EL.out]
 go_ret2
 exact⟨rfl,rfl⟩
theorem isnan (x:Int) (w:World):Calls Tryz.prog 183 #[.int .u64 x] w fun e w'=>e=.returned (.bool false)∧w'=w:=by
 go_enter Tryz.func183,Tryz.ntmps183
 go_wp2
 go_ret
 exact⟨by simp,rfl⟩
set_option maxHeartbeats 400000 in
theorem compare (x y:Int) (w:World):Calls Tryz.prog 164 #[.int .u64 x,.int .u64 y] w fun e w'=>e=.returned (.int .i64 (cmpV x y))∧w'=w:=by
 unfold cmpV
 by_cases h:x<y
 ·go_enter Tryz.func164,Tryz.ntmps164
  go_wp2_with (go_at_call 183;refine(isnan _ _).mono ?_;rintro e w' ⟨rfl,rfl⟩)
  go_ret
  exact⟨by simp,rfl⟩
 ·by_cases h2:y<x
  ·have h3:¬x=y:=by omega
   go_enter Tryz.func164,Tryz.ntmps164
   go_wp2_with (go_at_call 183;refine(isnan _ _).mono ?_;rintro e w' ⟨rfl,rfl⟩)
   go_ret
   exact⟨by first | (simp;done) | (simp [h,h3];done),rfl⟩
  ·have h3:x=y:=by omega
   subst h3
   go_enter Tryz.func164,Tryz.ntmps164
   go_wp2_with (go_at_call 183;refine(isnan _ _).mono ?_;rintro e w' ⟨rfl,rfl⟩)
   go_ret
   exact⟨by simp,rfl⟩
theorem add64 (x y c:Int) (hx:0≤x) (hy:0≤y) (hc0:0≤c) (hc:c≤1) (w:World):(callFunc 182 #[.int .u64 x,.int .u64 y,.int .u64 c]).run Tryz.prog w=
  .ok (.value (.tuple #[.int .u64 ((x+y+c) % 18446744073709551616),.int .u64 ((x+y+c) / 18446744073709551616)])) w:=by
 rw [run_callFunc_extern Tryz.func182 (by kernel_rfl) (by kernel_rfl) (by kernel_rfl) (e:=add64Entry) (by kernel_rfl),run_add64 x y c hx hy hc0 hc]
 rfl
theorem add64_0 (x y:Int) (hx:0≤x) (hy:0≤y) (w:World):(callFunc 182 #[.int .u64 x,.int .u64 y,.int .u64 0]).run Tryz.prog w=
  .ok (.value (.tuple #[.int .u64 ((x+y) % 18446744073709551616),.int .u64 ((x+y) / 18446744073709551616)])) w:=by
 simpa using add64 x y 0 hx hy (Int.le_refl 0) (by decide) w
end Go.Proofs.YtceoibfliggalaaGreatDoor
namespace Go.Proofs.YtceoibfliggalaaGreatDoor
open Go.RowKit Wd
theorem bcell {W w1:World} (hb:Below W.heap.size W w1):(∀b o,b<W.heap.size→w1.cell? ⟨b,o,none⟩=W.cell? ⟨b,o,none⟩)∧(∀b o,b<W.heap.size→w1.frozen? ⟨b,o,none⟩=W.frozen? ⟨b,o,none⟩):=
 ⟨fun b o h=>hb.cell (p:=⟨b,o,none⟩) h,fun b o h=>hb.frozen (p:=⟨b,o,none⟩) h⟩
theorem bkeep {W w1:World} (hb:Below W.heap.size W w1):(∀a,(W.cell? a).isSome=true→w1.cell? a=W.cell? a)∧(∀a,(W.cell? a).isSome=true→w1.frozen? a=W.frozen? a):=by
 constructor
 ·intro a h
  obtain⟨u,hu⟩:=Option.isSome_iff_exists.1 h
  exact hb.cell (World.block_lt_of_cell? W a hu)
 ·intro a h
  obtain⟨u,hu⟩:=Option.isSome_iff_exists.1 h
  exact hb.frozen (World.block_lt_of_cell? W a hu)
theorem keepC {W w1:World} (hb:Below W.heap.size W w1) {a:Addr} {v:Value} (h:W.cell? a=some v):w1.cell? a=some v:=
 (hb.cell (World.block_lt_of_cell? W a h)).trans h
theorem keepF {W w1:World} (hb:Below W.heap.size W w1) {a:Addr} {v:Value} (h:W.cell? a=some v) (hf:W.frozen? a=false):w1.frozen? a=false:=
 (hb.frozen (World.block_lt_of_cell? W a h)).trans hf
theorem allocC {w:World} (o:Obj) {a:Addr} {v:Value} (h:w.cell? a=some v):(w.alloc o).cell? a=some v:=
 (World.cell?_alloc_some w a o (by rw [h];rfl)).trans h
theorem allocF {w:World} (c:Array Value) (t:TypeId) {a:Addr} (h:w.frozen? a=false):(w.alloc (.cells c t)).frozen? a=false:=
 (frozen?_alloc_cells w c t a).trans h
theorem greatest_any (w:World):Calls Tryz.prog 163 #[] w fun e w'=>e=.returned (.agg #[.int .u64 18446744073709551615,.int .u64 18446744073709551615])∧Below w.heap.size w w':=by
 go_enter Tryz.func163,Tryz.ntmps163
 go_wp2
 exact bodyPost_ret (v:=.agg #[.int .u64 18446744073709551615,.int .u64 18446744073709551615]) (by simp [results,Tryz.results163,go_sem]) rfl ⟨rfl,(Below.refl _ _).alloc (Nat.le_refl _) _⟩
theorem of_any (n:Int) (w:World):Calls Tryz.prog 159 #[.int .u64 n] w fun e w'=>e=.returned (.agg #[.int .u64 0,.int .u64 n])∧Below w.heap.size w w':=by
 go_enter Tryz.func159,Tryz.ntmps159
 go_wp2
 exact bodyPost_ret (v:=.agg #[.int .u64 0,.int .u64 n]) (by simp [results,Tryz.results159,go_sem]) rfl ⟨rfl,(Below.refl _ _).alloc (Nat.le_refl _) _⟩
theorem mul_any (x y:Int) (hx:Word x) (hy:Word y) (w:World):
  Calls Tryz.prog 160 #[.int .u64 x,.int .u64 y] w fun e w'=>e=.returned (.agg #[.int .u64 (hiW (x*y)),.int .u64 (loW (x*y))])∧Below w.heap.size w w':=by
 go_enter Tryz.func160,Tryz.ntmps160
 go_wp2_with (go_at_call 112;refine(mul64 x y hx hy _).mono ?_;rintro e w' ⟨rfl,rfl⟩)
 exact bodyPost_ret (v:=.agg #[.int .u64 (hiW (x*y)),.int .u64 (loW (x*y))]) (by simp [results,Tryz.results160,go_sem]) rfl ⟨rfl,(Below.refl _ _).alloc (Nat.le_refl _) _⟩
namespace Wd
theorem add_yes {ah al bh bl:Int} (h1:Word ah) (h2:Word al) (h3:Word bh) (h4:Word bl) (h:ah+bh+(al+bl) / 18446744073709551616<18446744073709551616):
  (ah+bh+(al+bl) / 18446744073709551616) % 18446744073709551616=hiW (addV (val ah al) (val bh bl))∧(al+bl) % 18446744073709551616=loW (addV (val ah al) (val bh bl))∧addB (val ah al) (val bh bl)=true:=by
 obtain⟨_,_⟩:=h1;obtain⟨_,_⟩:=h2;obtain⟨_,_⟩:=h3;obtain⟨_,_⟩:=h4
 have hle:val ah al+val bh bl≤top:=by unfold val top;omega
 have e:addV (val ah al) (val bh bl)=val ah al+val bh bl:=by unfold addV;rw [if_pos hle]
 refine⟨?_,?_,by simp [addB,hle]⟩<;>rw [e]<;>simp only [hiW,loW,val]<;>omega
theorem add_no {ah al bh bl:Int} (h1:Word ah) (h2:Word al) (h3:Word bh) (h4:Word bl) (h:18446744073709551616≤ah+bh+(al+bl) / 18446744073709551616):
  18446744073709551615=hiW (addV (val ah al) (val bh bl))∧18446744073709551615=loW (addV (val ah al) (val bh bl))∧addB (val ah al) (val bh bl)=false:=by
 obtain⟨_,_⟩:=h1;obtain⟨_,_⟩:=h2;obtain⟨_,_⟩:=h3;obtain⟨_,_⟩:=h4
 have hle:¬val ah al+val bh bl≤top:=by unfold val top;omega
 have e:addV (val ah al) (val bh bl)=top:=by unfold addV;rw [if_neg hle]
 refine⟨?_,?_,by simp [addB,hle]⟩<;>rw [e]<;>simp only [hiW,loW,top]<;>omega
end Wd
set_option maxHeartbeats 400000 in
theorem add_any (ah al bh bl:Int) (h1:Word ah) (h2:Word al) (h3:Word bh) (h4:Word bl) (w:World):
  Calls Tryz.prog 162 #[.agg #[.int .u64 ah,.int .u64 al],.agg #[.int .u64 bh,.int .u64 bl]] w fun e w'=>
   e=.returned (.tuple #[.agg #[.int .u64 (hiW (addV (val ah al) (val bh bl))),.int .u64 (loW (addV (val ah al) (val bh bl)))],.bool (addB (val ah al) (val bh bl))])∧Below w.heap.size w w':=by
 by_cases h:ah+bh+(al+bl) / 18446744073709551616<18446744073709551616
 ·obtain ⟨e1,e2,e3⟩:=add_yes h1 h2 h3 h4 h
  rw [← e1,←e2,e3];clear e1 e2 e3
  obtain⟨a1,a2⟩:=h1;obtain⟨b1,b2⟩:=h2;obtain⟨c1,c2⟩:=h3;obtain⟨d1,d2⟩:=h4
  have k0:0≤(al+bl) / 18446744073709551616:=by omega
  have k1:(al+bl) / 18446744073709551616≤1:=by omega
  have k2:((ah+bh+(al+bl) / 18446744073709551616) / 18446744073709551616 != 0)=false:=by simp;omega
  go_enter Tryz.func162,Tryz.ntmps162
  go_wp2_with (first | simp only [add64_0 al bl b1 d1] | simp only [add64 ah bh _ a1 c1 k0 k1])
  exact bodyPost_ret (v:=.tuple #[.agg #[.int .u64 ((ah+bh+(al+bl) / 18446744073709551616) % 18446744073709551616),.int .u64 ((al+bl) % 18446744073709551616)],.bool true]) (by simp [results,Tryz.results162,go_sem]) rfl ⟨rfl,(((Below.refl _ _).alloc (Nat.le_refl _) _).alloc (by simp) _).alloc (by simp;omega) _⟩
 ·obtain ⟨e1,e2,e3⟩:=add_no h1 h2 h3 h4 (by omega)
  rw [← e1,←e2,e3];clear e1 e2 e3
  obtain⟨a1,a2⟩:=h1;obtain⟨b1,b2⟩:=h2;obtain⟨c1,c2⟩:=h3;obtain⟨d1,d2⟩:=h4
  have k0:0≤(al+bl) / 18446744073709551616:=by omega
  have k1:(al+bl) / 18446744073709551616≤1:=by omega
  have k2:((ah+bh+(al+bl) / 18446744073709551616) / 18446744073709551616 != 0)=true:=by simp;omega
  go_enter Tryz.func162,Tryz.ntmps162
  go_wp2_with (first | simp only [add64_0 al bl b1 d1] | simp only [add64 ah bh _ a1 c1 k0 k1] | (go_at_call 163;refine(greatest_any _).mono ?_;rintro e w1 ⟨rfl,hb⟩;obtain⟨hc,hf⟩:=bcell hb))
  have hz:=hb.size
  simp at hz
  refine bodyPost_ret (v:=.tuple #[.agg #[.int .u64 18446744073709551615,.int .u64 18446744073709551615],.bool false]) (by simp [results,Tryz.results162,go_sem,hc]) rfl ⟨rfl,?_⟩
  exact((((((Below.refl _ _).alloc (Nat.le_refl _) _).alloc (by simp) _).alloc (by simp;omega) _).trans (hb.mono (by simp;omega))).setCell (by simp;omega) _).setCell (by simp;omega) _
end Go.Proofs.YtceoibfliggalaaGreatDoor
namespace Go.Proofs.YtceoibfliggalaaGreatDoor
open Go.RowKit Wd
namespace Wd
theorem cmp_hi {ah al bh bl:Int} (h2:Word al) (h4:Word bl) (h:ah≠bh):cmpV ah bh=cmpV (val ah al) (val bh bl):=by
 obtain⟨_,_⟩:=h2;obtain⟨_,_⟩:=h4
 unfold cmpV val;split<;>split<;>(try split)<;>(try split)<;>omega
theorem cmp_lo {ah al bl:Int}:cmpV al bl=cmpV (val ah al) (val ah bl):=by
 unfold cmpV val;split<;>split<;>(try split)<;>(try split)<;>omega
end Wd
set_option maxHeartbeats 400000 in
theorem cmp_any (ah al bh bl:Int) (h2:Word al) (h4:Word bl) (w:World):
  Calls Tryz.prog 134 #[.agg #[.int .u64 ah,.int .u64 al],.agg #[.int .u64 bh,.int .u64 bl]] w fun e w'=>
   e=.returned (.int .i64 (cmpV (val ah al) (val bh bl)))∧Below w.heap.size w w':=by
 by_cases h:ah=bh
 ·subst h
  rw [← cmp_lo]
  go_enter Tryz.func134,Tryz.ntmps134
  go_wp2_with (go_at_call 164;refine(compare al bl _).mono ?_;rintro e w' ⟨rfl,rfl⟩)
  go_ret
  exact⟨rfl,((Below.refl _ _).alloc (Nat.le_refl _) _).alloc (by simp) _⟩
 ·rw [← cmp_hi h2 h4 h]
  have k:(ah != bh)=true:=by simp [h]
  go_enter Tryz.func134,Tryz.ntmps134
  go_wp2_with (go_at_call 164;refine(compare ah bh _).mono ?_;rintro e w' ⟨rfl,rfl⟩)
  go_ret
  exact⟨rfl,((Below.refl _ _).alloc (Nat.le_refl _) _).alloc (by simp) _⟩
end Go.Proofs.YtceoibfliggalaaGreatDoor
namespace Go.Proofs.YtceoibfliggalaaGreatDoor
open Go.RowKit Wd
namespace Wd
theorem word0:Word 0:=by unfold Word;omega
theorem tim_no {ah al b:Int} (h1:Word ah) (h2:Word al) (h3:Word b) (h:hiW (ah*b)≠0):
  18446744073709551615=hiW (timV (val ah al) b)∧18446744073709551615=loW (timV (val ah al) b)∧timB (val ah al) b=false:=by
 have hn:=mul_num h1 h3
 obtain⟨_,_⟩:=h1;obtain⟨_,_⟩:=h2;obtain⟨_,_⟩:=h3;obtain⟨_,_⟩:=hn
 have e0:val ah al*b=ah*b*18446744073709551616+al*b:=by
  unfold val;rw [Int.add_mul,Int.mul_right_comm]
 have hal:0≤al*b:=Int.mul_nonneg (by assumption) (by assumption)
 have hle:¬val ah al*b≤top:=by
  rw [e0];unfold hiW at h;unfold top
  generalize ah*b=p at *
  generalize al*b=q at *
  omega
 have e:timV (val ah al) b=top:=by unfold timV;rw [if_neg hle]
 refine⟨?_,?_,by simp [timB,hle]⟩<;>rw [e]<;>simp only [hiW,loW,top]<;>omega
theorem tim_yes {ah al b:Int} (h:hiW (ah*b)=0):
  addV (val (loW (ah*b)) 0) (val (hiW (al*b)) (loW (al*b)))=timV (val ah al) b∧addB (val (loW (ah*b)) 0) (val (hiW (al*b)) (loW (al*b)))=timB (val ah al) b:=by
 have e0:val ah al*b=ah*b*18446744073709551616+al*b:=by
  unfold val;rw [Int.add_mul,Int.mul_right_comm]
 have e1:val (loW (ah*b)) 0+val (hiW (al*b)) (loW (al*b))=val ah al*b:=by
  rw [val_words,e0];unfold val;unfold hiW at h;unfold loW;omega
 unfold addV timV addB timB
 rw [e1]
 exact⟨rfl,rfl⟩
end Wd
set_option maxHeartbeats 1000000 in
theorem times_any (ah al b:Int) (h1:Word ah) (h2:Word al) (h3:Word b) (w:World):
  Calls Tryz.prog 132 #[.agg #[.int .u64 ah,.int .u64 al],.int .u64 b] w fun e w'=>
   e=.returned (.tuple #[.agg #[.int .u64 (hiW (timV (val ah al) b)),.int .u64 (loW (timV (val ah al) b))],.bool (timB (val ah al) b)])∧Below w.heap.size w w':=by
 by_cases h:hiW (ah*b)=0
 ·obtain ⟨e1,e3⟩:=tim_yes (al:=al) h
  rw [← e1,←e3];clear e1 e3
  have k2:(hiW (ah*b) != 0)=false:=by simp [h]
  clear h
  have hw0:=word0;have hwl:=lo_word (ah*b);have hwh:=hi_word (mul_num h2 h3);have hwk:=lo_word (al*b)
  go_enter Tryz.func132,Tryz.ntmps132
  go_wp2_with fail
  refine(mul_any ah b h1 h3 _).mono ?_
  rintro e w1 ⟨rfl,hb⟩
  have hz:=hb.size
  simp at hz
  have hne:¬w.heap.size+1=w1.heap.size:=by omega
  have c0:w1.cell? ⟨w.heap.size,0,none⟩=some (.int .u64 ah):=by rw [(bcell hb).1 _ _ (by simp;omega)];simp [go_sem]
  have c1:w1.cell? ⟨w.heap.size,1,none⟩=some (.int .u64 al):=by rw [(bcell hb).1 _ _ (by simp;omega)];simp [go_sem]
  have d0:w1.cell? ⟨w.heap.size+1,0,none⟩=some (.int .u64 0):=by rw [(bcell hb).1 _ _ (by simp)];simp
  have d1:w1.cell? ⟨w.heap.size+1,1,none⟩=some (.int .u64 0):=by rw [(bcell hb).1 _ _ (by simp)];simp
  have f0:w1.frozen? ⟨w.heap.size+1,0,none⟩=false:=by rw [(bcell hb).2 _ _ (by simp)];simp
  have f1:w1.frozen? ⟨w.heap.size+1,1,none⟩=false:=by rw [(bcell hb).2 _ _ (by simp)];simp
  go_wp2_with fail
  go_region_held3 (fun w'=>w'.cell? ⟨w.heap.size,0,none⟩=some (.int .u64 ah)∧w'.cell? ⟨w.heap.size,1,none⟩=some (.int .u64 al)∧w'.cell? ⟨w1.heap.size,0,none⟩=some (.int .u64 (hiW (ah*b)))∧w'.cell? ⟨w1.heap.size,1,none⟩=some (.int .u64 (loW (ah*b)))) (simp (maxDischargeDepth:=12) [*,World.cell?_alloc_some,World.cell?_setCell_far])
   (first
    | (go_at_call 160;refine(mul_any al b h2 h3 _).mono ?_;rintro e w2 ⟨rfl,hb2⟩;obtain⟨hc2,hf2⟩:=bkeep hb2;have d2:=keepC hb2 (allocC _ d0);have d3:=keepC hb2 (allocC _ d1);have f2:=keepF hb2 (allocC _ d0) (allocF _ _ f0);have f3:=keepF hb2 (allocC _ d1) (allocF _ _ f1))
    | (go_at_call 162;refine(add_any (loW (ah*b)) 0 (hiW (al*b)) (loW (al*b)) hwl hw0 hwh hwk _).mono ?_;rintro e w3 ⟨rfl,hb3⟩;obtain⟨hc3,hf3⟩:=bkeep hb3;have d4:=keepC hb3 d2;have d5:=keepC hb3 d3;have f4:=keepF hb3 d2 f2;have f5:=keepF hb3 d3 f3))
  go_wp2_with fail
  refine bodyPost_ret (v:=.tuple #[.agg #[.int .u64 (hiW (addV (val (loW (ah*b)) 0) (val (hiW (al*b)) (loW (al*b))))),.int .u64 (loW (addV (val (loW (ah*b)) 0) (val (hiW (al*b)) (loW (al*b)))))],.bool (addB (val (loW (ah*b)) 0) (val (hiW (al*b)) (loW (al*b))))]) (by simp [results,Tryz.results132,go_sem,d4,d5]) rfl ⟨rfl,?_⟩
  have z2:=hb2.size
  simp at z2
  exact(((((((Below.refl _ _).alloc (Nat.le_refl _) _).alloc (by simp) _).trans (hb.mono (by simp;omega))).alloc (by omega) _).drew.trans (hb2.mono (by simp;omega))).trans (hb3.mono (by omega))).setCell (by simp) _ |>.setCell (by simp) _
 ·obtain ⟨e1,e2,e3⟩:=tim_no h1 h2 h3 h
  rw [← e1,←e2,e3];clear e1 e2 e3
  have k2:(hiW (ah*b) != 0)=true:=by simp [h]
  go_enter Tryz.func132,Tryz.ntmps132
  go_wp2_with fail
  refine(mul_any ah b h1 h3 _).mono ?_
  rintro e w1 ⟨rfl,hb⟩
  have hz:=hb.size
  simp at hz
  have c0:w1.cell? ⟨w.heap.size+1,0,none⟩=some (.int .u64 0):=by rw [(bcell hb).1 _ _ (by simp)];simp
  have c1:w1.cell? ⟨w.heap.size+1,1,none⟩=some (.int .u64 0):=by rw [(bcell hb).1 _ _ (by simp)];simp
  have f0:w1.frozen? ⟨w.heap.size+1,0,none⟩=false:=by rw [(bcell hb).2 _ _ (by simp)];simp
  have f1:w1.frozen? ⟨w.heap.size+1,1,none⟩=false:=by rw [(bcell hb).2 _ _ (by simp)];simp
  go_wp2_with fail
  refine(greatest_any _).mono ?_
  rintro e w2 ⟨rfl,hb2⟩
  have hz2:=hb2.size
  simp at hz2
  have d0:w2.cell? ⟨w.heap.size+1,0,none⟩=some (.int .u64 0):=by rw [(bcell hb2).1 _ _ (by simp;omega),World.cell?_alloc_past (hn:=by omega)];exact c0
  have d1:w2.cell? ⟨w.heap.size+1,1,none⟩=some (.int .u64 0):=by rw [(bcell hb2).1 _ _ (by simp;omega),World.cell?_alloc_past (hn:=by omega)];exact c1
  have g0:w2.frozen? ⟨w.heap.size+1,0,none⟩=false:=by rw [(bcell hb2).2 _ _ (by simp;omega),World.frozen?_alloc_past (hn:=by omega)];exact f0
  have g1:w2.frozen? ⟨w.heap.size+1,1,none⟩=false:=by rw [(bcell hb2).2 _ _ (by simp;omega),World.frozen?_alloc_past (hn:=by omega)];exact f1
  clear c0 c1 f0 f1
  go_wp2_with fail
  refine bodyPost_ret (v:=.tuple #[.agg #[.int .u64 18446744073709551615,.int .u64 18446744073709551615],.bool false]) (by simp [results,Tryz.results132,go_sem,d0,d1]) rfl ⟨rfl,?_⟩
  exact((((((Below.refl _ _).alloc (Nat.le_refl _) _).alloc (by simp) _).trans (hb.mono (by simp;omega))).alloc (by omega) _).trans (hb2.mono (by simp;omega))).setCell (by simp) _ |>.setCell (by simp) _
end Go.Proofs.YtceoibfliggalaaGreatDoor

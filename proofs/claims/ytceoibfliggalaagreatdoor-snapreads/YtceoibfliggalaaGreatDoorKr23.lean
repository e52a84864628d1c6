/-
  TEXTS: Len, Div64, WideD, Nums, Fix, FxB.
-/
import Derived.Test.YtceoibfliggalaaGreatDoorKr2
import Derived.Lib.BitFns
import Derived.Deep.CutBlock
import Derived.Deep.DeepCutAuto
namespace Go.Proofs.YtceoibfliggalaaGreatDoor
open Go.RowKit Wd
namespace Wd
theorem len8_all:∀n:Fin 256,0≤Lib.len8 (n.val:Int)∧Lib.len8 (n.val:Int)≤8∧((n.val:Int)≠0→2^(Lib.len8 (n.val:Int)).toNat≤2*n.val∧n.val<2^(Lib.len8 (n.val:Int)).toNat):=by decide +kernel
theorem len8_pow (b:Int) (h0:1≤b) (h1:b≤255):0≤Lib.len8 b∧Lib.len8 b≤8∧(2:Int)^(Lib.len8 b).toNat≤2*b∧b<(2:Int)^(Lib.len8 b).toNat:=by
 have h:=len8_all ⟨b.toNat,by omega⟩
 simp only [Int.toNat_of_nonneg (show 0≤b by omega)]at h
 obtain⟨h1,h2,h3⟩:=h
 obtain⟨h4,h5⟩:=h3 (by omega)
 have e:((2^(Lib.len8 b).toNat:Nat):Int)=(2:Int)^(Lib.len8 b).toNat:=by simp
 refine⟨h1,h2,?_,?_⟩<;>omega
def Len (x n:Int):Prop:=1≤n∧n≤64∧(2:Int)^n.toNat≤2*x∧x<(2:Int)^n.toNat
theorem len_of (x b:Int) (d:Nat) (D:Int) (hd:d≤56) (hD:(2:Int)^d=D) (hb:b=x / D) (_hx:0≤x) (h0:1≤b) (h1:b≤255):Len x (d+Lib.len8 b):=by
 obtain⟨l0,l1,p0,p1⟩:=len8_pow b h0 h1
 have lp:1≤Lib.len8 b:=by
  by_cases z:Lib.len8 b=0
  ·rw [z]at p1;simp at p1;omega
  ·omega
 have e:(2:Int)^((d:Int)+Lib.len8 b).toNat=D*2^(Lib.len8 b).toNat:=by
  rw [show ((d:Int)+Lib.len8 b).toNat=d+(Lib.len8 b).toNat by omega,Int.pow_add,hD]
 have hDp:0<D:=by
  have:0<(2:Nat)^d:=Nat.two_pow_pos d
  have h:((2^d:Nat):Int)=(2:Int)^d:=by simp
  omega
 have q0:=Int.mul_ediv_add_emod x D
 have q1:=Int.emod_nonneg x (show D≠0 by omega)
 have q2:=Int.emod_lt_of_pos x hDp
 rw [← hb]at q0
 have m0:=Int.mul_le_mul_of_nonneg_left p0 (show 0≤D by omega)
 have m1:=Int.mul_le_mul_of_nonneg_left (show b+1≤2^(Lib.len8 b).toNat by omega) (show 0≤D by omega)
 refine⟨by omega,by omega,?_,?_⟩
 ·rw [e]
  calc D*2^(Lib.len8 b).toNat≤D*(2*b):=m0
   _=2*(D*b):=by rw [← Int.mul_assoc,Int.mul_comm D 2,Int.mul_assoc]
   _≤2*x:=by omega
 ·rw [e]
  calc x<D*b+D:=by omega
   _=D*(b+1):=by rw [Int.mul_add,Int.mul_one]
   _≤_:=m1
end Wd
set_option maxHeartbeats 4000000 in
set_option maxRecDepth 100000 in
theorem len64_any (x:Int) (h0:1≤x) (h1:x<18446744073709551616) (w:World):
  Calls Tryz.prog 202 #[.int .u64 x] w fun e w'=>∃n:Int,e=.returned (.int .i64 n)∧Len x n∧w'=w:=by
 by_cases c1:4294967296≤x
 ·by_cases c2:65536≤x / 4294967296
  ·by_cases c3:256≤x / 4294967296 / 65536
   ·have hl:=len_of x (x / 4294967296 / 65536 / 256) 56 72057594037927936 (by omega) (by rfl) (by omega) (by omega) (by omega) (by omega)
    obtain⟨l0,l1,_,_⟩:=len8_pow (x / 4294967296 / 65536 / 256) (by omega) (by omega)
    have hix:=fun wx=>Lib.run_index_len8tab (P:=Tryz.prog) wx 9 .u8 (x / 4294967296 / 65536 / 256) Tryz.underlying9 (by omega) (by omega)
    have HL:Hid (Len x (56+Lib.len8 (x / 4294967296 / 65536 / 256))):=hl
    clear hl
    go_enter Tryz.func202,Tryz.ntmps202
    go_wp2
    go_ret
    exact⟨_,rfl,HL.out,rfl⟩
   ·have hl:=len_of x (x / 4294967296 / 65536) 48 281474976710656 (by omega) (by rfl) (by omega) (by omega) (by omega) (by omega)
    obtain⟨l0,l1,_,_⟩:=len8_pow (x / 4294967296 / 65536) (by omega) (by omega)
    have hix:=fun wx=>Lib.run_index_len8tab (P:=Tryz.prog) wx 9 .u8 (x / 4294967296 / 65536) Tryz.underlying9 (by omega) (by omega)
    have HL:Hid (Len x (48+Lib.len8 (x / 4294967296 / 65536))):=hl
    clear hl
    go_enter Tryz.func202,Tryz.ntmps202
    go_wp2
    go_ret
    exact⟨_,rfl,HL.out,rfl⟩
  ·by_cases c3:256≤x / 4294967296
   ·have hl:=len_of x (x / 4294967296 / 256) 40 1099511627776 (by omega) (by rfl) (by omega) (by omega) (by omega) (by omega)
    obtain⟨l0,l1,_,_⟩:=len8_pow (x / 4294967296 / 256) (by omega) (by omega)
    have hix:=fun wx=>Lib.run_index_len8tab (P:=Tryz.prog) wx 9 .u8 (x / 4294967296 / 256) Tryz.underlying9 (by omega) (by omega)
    have HL:Hid (Len x (40+Lib.len8 (x / 4294967296 / 256))):=hl
    clear hl
    go_enter Tryz.func202,Tryz.ntmps202
    go_wp2
    go_ret
    exact⟨_,rfl,HL.out,rfl⟩
   ·have hl:=len_of x (x / 4294967296) 32 4294967296 (by omega) (by rfl) (by omega) (by omega) (by omega) (by omega)
    obtain⟨l0,l1,_,_⟩:=len8_pow (x / 4294967296) (by omega) (by omega)
    have hix:=fun wx=>Lib.run_index_len8tab (P:=Tryz.prog) wx 9 .u8 (x / 4294967296) Tryz.underlying9 (by omega) (by omega)
    have HL:Hid (Len x (32+Lib.len8 (x / 4294967296))):=hl
    clear hl
    go_enter Tryz.func202,Tryz.ntmps202
    go_wp2
    go_ret
    exact⟨_,rfl,HL.out,rfl⟩
 ·by_cases c2:65536≤x
  ·by_cases c3:256≤x / 65536
   ·have hl:=len_of x (x / 65536 / 256) 24 16777216 (by omega) (by rfl) (by omega) (by omega) (by omega) (by omega)
    obtain⟨l0,l1,_,_⟩:=len8_pow (x / 65536 / 256) (by omega) (by omega)
    have hix:=fun wx=>Lib.run_index_len8tab (P:=Tryz.prog) wx 9 .u8 (x / 65536 / 256) Tryz.underlying9 (by omega) (by omega)
    have HL:Hid (Len x (24+Lib.len8 (x / 65536 / 256))):=hl
    clear hl
    go_enter Tryz.func202,Tryz.ntmps202
    go_wp2
    go_ret
    exact⟨_,rfl,HL.out,rfl⟩
   ·have hl:=len_of x (x / 65536) 16 65536 (by omega) (by rfl) (by omega) (by omega) (by omega) (by omega)
    obtain⟨l0,l1,_,_⟩:=len8_pow (x / 65536) (by omega) (by omega)
    have hix:=fun wx=>Lib.run_index_len8tab (P:=Tryz.prog) wx 9 .u8 (x / 65536) Tryz.underlying9 (by omega) (by omega)
    have HL:Hid (Len x (16+Lib.len8 (x / 65536))):=hl
    clear hl
    go_enter Tryz.func202,Tryz.ntmps202
    go_wp2
    go_ret
    exact⟨_,rfl,HL.out,rfl⟩
  ·by_cases c3:256≤x
   ·have hl:=len_of x (x / 256) 8 256 (by omega) (by rfl) (by omega) (by omega) (by omega) (by omega)
    obtain⟨l0,l1,_,_⟩:=len8_pow (x / 256) (by omega) (by omega)
    have hix:=fun wx=>Lib.run_index_len8tab (P:=Tryz.prog) wx 9 .u8 (x / 256) Tryz.underlying9 (by omega) (by omega)
    have HL:Hid (Len x (8+Lib.len8 (x / 256))):=hl
    clear hl
    go_enter Tryz.func202,Tryz.ntmps202
    go_wp2
    go_ret
    exact⟨_,rfl,HL.out,rfl⟩
   ·have hl:=len_of x (x) 0 1 (by omega) (by rfl) (by omega) (by omega) (by omega) (by omega)
    obtain⟨l0,l1,_,_⟩:=len8_pow (x) (by omega) (by omega)
    have hix:=fun wx=>Lib.run_index_len8tab (P:=Tryz.prog) wx 9 .u8 (x) Tryz.underlying9 (by omega) (by omega)
    have HL:Hid (Len x (Lib.len8 (x))):=by {have h2:=hl;simp only [Int.natCast_zero,Int.zero_add]at h2;exact h2}
    clear hl
    go_enter Tryz.func202,Tryz.ntmps202
    go_wp2
    go_ret
    exact⟨_,rfl,HL.out,rfl⟩
set_option maxHeartbeats 400000 in
theorem lz_any (y:Int) (h0:1≤y) (h1:y<18446744073709551616) (w:World):
  Calls Tryz.prog 201 #[.int .u64 y] w fun e w'=>∃s:Int,e=.returned (.int .i64 s)∧0≤s∧s≤63∧9223372036854775808≤y*2^s.toNat∧y*2^s.toNat<18446744073709551616∧w'=w:=by
 go_enter Tryz.func201,Tryz.ntmps201
 go_wp2_with fail
 refine(len64_any y h0 h1 _).mono ?_
 rintro e w1 ⟨n,rfl,hn,rfl⟩
 obtain⟨n0,n1,n2,n3⟩:=hn
 have N2:Hid ((2:Int)^n.toNat≤2*y∧y<2^n.toNat):=⟨n2,n3⟩
 clear n2 n3
 go_wp2
 go_ret
 refine⟨_,rfl,by omega,by omega,?_,?_,rfl⟩
 ·obtain ⟨n2,n3⟩:=N2.out
  have e:(2:Int)^n.toNat*2^(64 - n).toNat=18446744073709551616:=by
   rw [← Int.pow_add,show n.toNat+(64 - n).toNat=64 by omega];rfl
  have hp:(0:Int)≤2^(64 - n).toNat:=Int.pow_nonneg (by decide)
  have m:=Int.mul_le_mul_of_nonneg_right n2 hp
  rw [e,Int.mul_assoc]at m
  omega
 ·obtain ⟨n2,n3⟩:=N2.out
  have e:(2:Int)^n.toNat*2^(64 - n).toNat=18446744073709551616:=by
   rw [← Int.pow_add,show n.toNat+(64 - n).toNat=64 by omega];rfl
  have hp:(0:Int)<2^(64 - n).toNat:=Int.pow_pos (by decide)
  have m:=Int.mul_lt_mul_of_pos_right n3 hp
  rw [e]at m
  exact m
end Go.Proofs.YtceoibfliggalaaGreatDoor
namespace Go.Proofs.YtceoibfliggalaaGreatDoor
open Go.RowKit Wd
set_option maxHeartbeats 400000 in
theorem div64_0 (lo y:Int) (h2:Word lo) (h3:Word y) (h:0<y) (w:World):
  Calls Tryz.prog 198 #[.int .u64 0,.int .u64 lo,.int .u64 y] w fun e w'=>e=.returned (.tuple #[.int .u64 (lo / y),.int .u64 (lo % y)])∧Below w.heap.size w w':=by
 obtain⟨a1,a2⟩:=h2;obtain⟨b1,b2⟩:=h3
 have k1:(y==0)=false:=by simp;omega
 go_enter Tryz.func198,Tryz.ntmps198
 go_wp2
 go_region
 go_wp2
 go_ret2
 exact⟨rfl,(Below.refl _ _).drew⟩
namespace Wd
theorem div_prep {hi lo y s:Int} (h1:Word hi) (h2:Word lo) (hy0:hi<y) (s0:0≤s) (s1:s≤63) (y0:9223372036854775808≤y*2^s.toNat) (y1:y*2^s.toNat<18446744073709551616):
  ∃U L p z c1 c0 Y qi,bits .or .u64 (IntKind.u64.wrap (hi*2^s.toNat)) (lo / 2^(64 - s).toNat)=U∧IntKind.u64.wrap (lo*2^s.toNat)=L∧y*2^s.toNat=Y∧Y / 4294967296=p∧bits .and .u64 Y 4294967295=z∧L / 4294967296=c1∧bits .and .u64 L 4294967295=c0∧U / p=qi∧
   Y=p*4294967296+z∧Word Y∧Word U∧Word L∧Digit U c1 p z∧(∀r,0≤r→r<Y→Digit r c0 p z)∧val hi lo*2^s.toNat=U*18446744073709551616+L∧c1=L / 4294967296∧c0=L % 4294967296:=by
 obtain⟨e1,_,e2⟩:=shl_small hi lo s h1 h2 s0 (by omega)
 have es:shlV (val hi lo) s=(val hi lo*2^s.toNat) % 340282366920938463463374607431768211456:=by unfold shlV;rw [if_neg (by omega)]
 have hn:=val_num h1 h2
 have hP:=pow_pos' s.toNat
 have hlt:val hi lo*2^s.toNat<(y*2^s.toNat)*18446744073709551616:=by
  have a:val hi lo<y*18446744073709551616:=by obtain⟨_,_⟩:=h2;unfold val;omega
  have b:=Int.mul_lt_mul_of_pos_right a (show (0:Int)<2^s.toNat by omega)
  rw [Int.mul_right_comm]at b
  exact b
 have h0:0≤val hi lo*2^s.toNat:=Int.mul_nonneg hn.1 (by omega)
 have es':shlV (val hi lo) s=val hi lo*2^s.toNat:=by rw [es];omega
 rw [es']at e1 e2
 refine⟨_,_,_,_,_,_,_,_,rfl,rfl,rfl,rfl,rfl,rfl,rfl,rfl,?_⟩
 rw [e1,e2]
 have wL:=lo_word (val hi lo*2^s.toNat)
 have wY:Word (y*2^s.toNat):=⟨by omega,y1⟩
 rw [mask32 _ wL,mask32 _ wY]
 have hwords:hiW (val hi lo*2^s.toNat)*18446744073709551616+loW (val hi lo*2^s.toNat)=val hi lo*2^s.toNat:=val_words (val hi lo*2^s.toNat)
 have hU:0≤hiW (val hi lo*2^s.toNat)∧hiW (val hi lo*2^s.toNat)<y*2^s.toNat:=by
  unfold hiW
  exact⟨Int.ediv_nonneg h0 (by omega),Int.ediv_lt_of_lt_mul (by omega) hlt⟩
 obtain⟨u0,u1⟩:=hU
 obtain⟨l0,l1⟩:=wL
 generalize hiW (val hi lo*2^s.toNat)=U at *
 generalize loW (val hi lo*2^s.toNat)=L at *
 generalize y*2^s.toNat=Y at *
 refine⟨by omega,wY,⟨u0,by omega⟩,⟨l0,l1⟩,⟨by omega,by omega,by omega,by omega,by omega,by omega,u0,by omega⟩,fun r r0 r1=>⟨by omega,by omega,by omega,by omega,by omega,by omega,r0,by omega⟩,hwords.symm,rfl,rfl⟩
end Wd
set_option maxHeartbeats 2000000 in
theorem div64_1 (hi lo y:Int) (h1:Word hi) (h2:Word lo) (h3:Word y) (h0:0<hi) (h:hi<y) (w:World):
  Calls Tryz.prog 198 #[.int .u64 hi,.int .u64 lo,.int .u64 y] w fun e w'=>e=.returned (.tuple #[.int .u64 (val hi lo / y),.int .u64 (val hi lo % y)])∧Below w.heap.size w w':=by
 have w1:=h1;have w2:=h2
 obtain⟨c1,c2⟩:=h1;obtain⟨a1,a2⟩:=h2;obtain⟨b1,b2⟩:=h3
 have k1:(y==0)=false:=by simp;omega
 have k2:(hi==0)=false:=by simp;omega
 go_enter Tryz.func198,Tryz.ntmps198
 go_wp2_with fail
 refine(lz_any y (by omega) b2 _).mono ?_
 rintro e w' ⟨s,rfl,s0,s1,y0,y1,rfl⟩
 obtain⟨U,L,p,z,d1,d0,Y,qi,eU,eL,eY,ep,ez,ed1,ed0,eqi,eYp,wY,wU,wL,D1,D0,eV,ed1',ed0'⟩:=div_prep w1 w2 h s0 s1 y0 y1
 rw [eY]at y0 y1
 obtain⟨p0,p1,z0,z1,dd0,dd1,U0,U1⟩:=D1
 have D1:Digit U d1 p z:=⟨p0,p1,z0,z1,dd0,dd1,U0,U1⟩
 have S1:=k_init D1
 rw [eqi]at S1
 obtain⟨_,i1,i2,_,i4,i5⟩:=S1
 have S1:=k_init D1
 rw [eqi]at S1
 have HS1:Hid (St U d1 p z qi (U - qi*p)):=S1
 have HV:Hid (val hi lo*2^s.toNat=U*18446744073709551616+L∧d1=L / 4294967296∧d0=L % 4294967296∧Y=p*4294967296+z∧y*2^s.toNat=Y):=⟨eV,ed1',ed0',eYp,eY⟩
 have HD0:Hid (∀r,0≤r→r<Y→Digit r d0 p z):=D0
 obtain⟨U0',U2⟩:=wU
 obtain⟨L0,L1⟩:=wL
 have mi:0≤qi*p:=Int.mul_nonneg i4 (by omega)
 clear S1 eV ed1' ed0' eYp D0 w1 w2 wY
 have HQ:Hid (0≤dig U d1 p z∧dig U d1 p z<4294967296):=⟨dig_nonneg D1,dig_lt D1⟩
 have HD1:Hid (Digit U d1 p z):=D1
 clear D1
 go_upto_block 0 with fail
 rw [eqi]
 clear eqi
 go_cut [15,16] (fun a b wc=>w'=wc∧a=.int .u64 (dig U d1 p z)∧∃r:Int,b=.int .u64 r)
 case first=>
  go_wp2_with fail
  go_loop [15,16] (fun a b=>∃q r:Int,a=.int .u64 q∧b=.int .u64 r∧St U d1 p z q r) (fun a _=>(intOf a).toNat)
  case atStart=>exact⟨qi,_,rfl,rfl,HS1.out⟩
  case round=>
   obtain⟨q,r,rfl,rfl,hst⟩:=hrel
   have HS:Hid (St U d1 p z q r):=hst
   obtain⟨hre,r0,r1,_,q0,q1⟩:=hst
   clear hre
   by_cases g:4294967296≤q
   ·have gb:decide (4294967296≤q)=true:=by simp [g]
    by_cases b:4294967296≤r+p
    ·go_wp2
     go_meet
     exact⟨rfl,by rw [k_break HD1.out HS.out (Or.inl g) b],_,rfl⟩
    ·go_wp2
     go_round
     case rel=>exact⟨q - 1,r+p,rfl,rfl,k_next HD1.out HS.out (Or.inl g) (by omega)⟩
     case measure=>simp [intOf];omega
   ·have gb:decide (4294967296≤q)=false:=by simp;omega
    have m0:0≤q*z:=Int.mul_nonneg q0 z0
    have m1:q*z≤4294967295*4294967295:=Int.mul_le_mul (by omega) (by omega) z0 (by omega)
    by_cases t:4294967296*r+d1<q*z
    ·have tb:decide (4294967296*r+d1<q*z)=true:=by simp [t]
     have q2:1≤q:=by
      have:=k_true HD1.out HS.out (Or.inr t)
      have:=dig_nonneg HD1.out
      omega
     by_cases b:4294967296≤r+p
     ·go_wp2
      go_meet
      exact⟨rfl,by rw [k_break HD1.out HS.out (Or.inr t) b],_,rfl⟩
     ·go_wp2
      go_round
      case rel=>exact⟨q - 1,r+p,rfl,rfl,k_next HD1.out HS.out (Or.inr t) (by omega)⟩
      case measure=>simp [intOf];omega
    ·have tb:decide (4294967296*r+d1<q*z)=false:=by simp;omega
     go_wp2
     go_meet
     exact⟨rfl,by rw [k_false HD1.out HS.out (by omega)],_,rfl⟩
 case rest=>
  obtain⟨rfl,rfl,r,rfl⟩:=hcut
  obtain⟨eR,R0,R1⟩:=k_rem HD1.out
  rw [← HV.out.2.2.2.1]at eR R0 R1
  have HR:Hid ((U*4294967296+d1) % Y=(U*4294967296+d1) % Y):=rfl
  obtain⟨Q,eQ⟩:∃Q,dig U d1 p z=Q:=⟨_,rfl⟩
  obtain⟨R,eR2⟩:∃R,(U*4294967296+d1) % Y=R:=⟨_,rfl⟩
  rw [eR2]at eR R0 R1
  rw [eQ]at eR HQ
  obtain⟨Q0,Q1⟩:=HQ.out
  have HE:Hid (Q=(U*4294967296+d1) / Y∧R=(U*4294967296+d1) % Y):=⟨by rw [← eQ,dig,←HV.out.2.2.2.1],eR2.symm⟩
  rw [eQ]
  have HDR:Hid (Digit R d0 p z):=HD0.out R R0 R1
  have HQ2:Hid (0≤dig R d0 p z∧dig R d0 p z<4294967296):=⟨dig_nonneg HDR.out,dig_lt HDR.out⟩
  obtain⟨qj,eqj⟩:∃qj,R / p=qj:=⟨_,rfl⟩
  have S2:=k_init HDR.out
  rw [eqj]at S2
  have HS2:Hid (St R d0 p z qj (R - qj*p)):=S2
  obtain⟨_,j1,j2,_,j4,j5⟩:=S2
  have mj:0≤qj*p:=Int.mul_nonneg j4 (by omega)
  obtain⟨_,_,_,_,e0,e1,_,_⟩:=HDR.out
  clear HR eQ eR2 HS1 HQ i1 i2 i4 i5 mi eU eL eY ep ez ed1 ed0
  go_upto_block 2 with fail
  try rw [eqj]
  clear eqj
  go_cut [18,16] (fun a b wc=>w'=wc∧a=.int .u64 (dig R d0 p z)∧∃r:Int,b=.int .u64 r)
  case first=>
   go_wp2_with fail
   go_loop [18,16] (fun a b=>∃q r:Int,a=.int .u64 q∧b=.int .u64 r∧St R d0 p z q r) (fun a _=>(intOf a).toNat)
   case atStart=>exact⟨qj,_,rfl,rfl,HS2.out⟩
   case round=>
    obtain⟨q,r,rfl,rfl,hst⟩:=hrel
    have HS:Hid (St R d0 p z q r):=hst
    obtain⟨hre,r0,r1,_,q0,q1⟩:=hst
    clear hre
    by_cases g:4294967296≤q
    ·have gb:decide (4294967296≤q)=true:=by simp [g]
     by_cases b:4294967296≤r+p
     ·go_wp2
      go_meet
      exact⟨rfl,by rw [k_break HDR.out HS.out (Or.inl g) b],_,rfl⟩
     ·go_wp2
      go_round
      case rel=>exact⟨q - 1,r+p,rfl,rfl,k_next HDR.out HS.out (Or.inl g) (by omega)⟩
      case measure=>simp [intOf];omega
    ·have gb:decide (4294967296≤q)=false:=by simp;omega
     have m0:0≤q*z:=Int.mul_nonneg q0 z0
     have m1:q*z≤4294967295*4294967295:=Int.mul_le_mul (by omega) (by omega) z0 (by omega)
     by_cases t:4294967296*r+d0<q*z
     ·have tb:decide (4294967296*r+d0<q*z)=true:=by simp [t]
      have q2:1≤q:=by
       have:=k_true HDR.out HS.out (Or.inr t)
       have:=dig_nonneg HDR.out
       omega
      by_cases b:4294967296≤r+p
      ·go_wp2
       go_meet
       exact⟨rfl,by rw [k_break HDR.out HS.out (Or.inr t) b],_,rfl⟩
      ·go_wp2
       go_round
       case rel=>exact⟨q - 1,r+p,rfl,rfl,k_next HDR.out HS.out (Or.inr t) (by omega)⟩
       case measure=>simp [intOf];omega
     ·have tb:decide (4294967296*r+d0<q*z)=false:=by simp;omega
      go_wp2
      go_meet
      exact⟨rfl,by rw [k_false HDR.out HS.out (by omega)],_,rfl⟩
  case rest=>
   obtain⟨rfl,rfl,r,rfl⟩:=hcut
   obtain⟨eT,T0,T1⟩:=k_rem HDR.out
   rw [← HV.out.2.2.2.1]at eT T0 T1
   obtain⟨P,eP⟩:∃P,dig R d0 p z=P:=⟨_,rfl⟩
   obtain⟨T,eT2⟩:∃T,(R*4294967296+d0) % Y=T:=⟨_,rfl⟩
   rw [eT2]at eT T0 T1
   rw [eP]at eT HQ2
   obtain⟨P0,P1⟩:=HQ2.out
   have HF:Hid (P=(R*4294967296+d0) / Y∧T=(R*4294967296+d0) % Y):=⟨by rw [← eP,dig,←HV.out.2.2.2.1],eT2.symm⟩
   rw [eP]
   clear eP eT2 HS2 HQ2 j1 j2 j4 j5 mj eR
   go_wp2
   go_ret2
   obtain⟨v1,v2,v3,v4,v5⟩:=HV.out
   obtain⟨u1,u2⟩:=HE.out
   obtain⟨u3,u4⟩:=HF.out
   obtain⟨f1,f2⟩:=k_whole (N:=val hi lo) (y:=y) (P:=2^s.toNat) (Y:=Y) (U:=U) (L:=L) (by omega) (pow_pos' _) v5.symm v1 Q R P T (by rw [← v2];exact u1) (by rw [← v2];exact u2) (by rw [← v3];exact u3) (by rw [← v3];exact u4)
   exact⟨by rw [← f1,←f2];rfl,Below.refl _ _⟩
theorem div64 (hi lo y:Int) (h1:Word hi) (h2:Word lo) (h3:Word y) (h:hi<y) (w:World):
  Calls Tryz.prog 198 #[.int .u64 hi,.int .u64 lo,.int .u64 y] w fun e w'=>e=.returned (.tuple #[.int .u64 (val hi lo / y),.int .u64 (val hi lo % y)])∧Below w.heap.size w w':=by
 by_cases z:hi=0
 ·subst z
  have e:val 0 lo=lo:=by unfold val;omega
  rw [e]
  exact div64_0 lo y h2 h3 h w
 ·exact div64_1 hi lo y h1 h2 h3 (by obtain⟨_,_⟩:=h1;omega) h w
end Go.Proofs.YtceoibfliggalaaGreatDoor
namespace Go.Proofs.YtceoibfliggalaaGreatDoor
open Go.RowKit Wd
namespace Wd
theorem div_words {ah al b:Int} (h1:Word ah) (h2:Word al) (h3:0<b) (h4:b<18446744073709551616):
  ah / b=hiW (divV (val ah al) b)∧val (ah % b) al / b=loW (divV (val ah al) b)∧val (ah % b) al % b=remV (val ah al) b∧Word (ah % b)∧ah % b<b:=by
 obtain⟨a0,a1⟩:=h1;obtain⟨l0,l1⟩:=h2
 have m0:=Int.emod_nonneg ah (show b≠0 by omega)
 have m1:=Int.emod_lt_of_pos ah h3
 have q0:=Int.ediv_nonneg a0 (show 0≤b by omega)
 have e:=Int.mul_ediv_add_emod ah b
 have ev:val ah al=val (ah % b) al+ah / b*18446744073709551616*b:=by
  unfold val
  have:ah*18446744073709551616=(b*(ah / b)+ah % b)*18446744073709551616:=by rw [e]
  rw [this,Int.add_mul,Int.mul_comm b,Int.mul_right_comm];omega
 have hlt:val (ah % b) al<b*18446744073709551616:=by unfold val;omega
 have h0:0≤val (ah % b) al:=by unfold val;omega
 have r0:0≤val (ah % b) al / b:=Int.ediv_nonneg h0 (by omega)
 have r1:val (ah % b) al / b<18446744073709551616:=Int.ediv_lt_of_lt_mul h3 (by rw [Int.mul_comm];exact hlt)
 have ed:divV (val ah al) b=ah / b*18446744073709551616+val (ah % b) al / b:=by
  unfold divV;rw [if_neg (by omega),ev,Int.add_mul_ediv_right _ _ (by omega),Int.add_comm]
 have er:remV (val ah al) b=val (ah % b) al % b:=by
  unfold remV;rw [if_neg (by omega),ev,Int.add_mul_emod_self_right]
 refine⟨?_,?_,er.symm,⟨m0,by omega⟩,m1⟩<;>rw [ed]<;>simp only [hiW,loW]<;>omega
end Wd
set_option maxHeartbeats 1000000 in
theorem div_any (ah al b:Int) (h1:Word ah) (h2:Word al) (h3:Word b) (w:World):
  Calls Tryz.prog 194 #[.agg #[.int .u64 ah,.int .u64 al],.int .u64 b] w fun e w'=>
   e=.returned (.tuple #[.agg #[.int .u64 (hiW (divV (val ah al) b)),.int .u64 (loW (divV (val ah al) b))],.int .u64 (remV (val ah al) b),.bool (divB b)])∧Below w.heap.size w w':=by
 by_cases z:b=0
 ·subst z
  rw [show divV (val ah al) 0=0 from rfl,show remV (val ah al) 0=0 from rfl,show divB 0=false from rfl,show hiW 0=0 from rfl,show loW 0=0 from rfl]
  go_enter Tryz.func194,Tryz.ntmps194
  go_wp2
  exact bodyPost_ret (v:=.tuple #[.agg #[.int .u64 0,.int .u64 0],.int .u64 0,.bool false]) (by simp [results,Tryz.results194,go_sem]) rfl ⟨rfl,((Below.refl _ _).alloc (Nat.le_refl _) _).alloc (by simp) _⟩
 ·have hb3:=h3
  obtain⟨b0,b1⟩:=h3
  have bp:0<b:=by omega
  obtain⟨e1,e2,e3,wm,lm⟩:=div_words h1 h2 bp b1
  have ed:divB b=true:=by simp [divB,z]
  rw [← e1,←e2,←e3,ed]
  have hal:=h2
  obtain⟨a0,a1⟩:=h1;obtain⟨l0,l1⟩:=h2
  have k:(b==0)=false:=by simp [z]
  have q0:0≤ah / b:=Int.ediv_nonneg a0 (by omega)
  have q1:ah / b<18446744073709551616:=by have:=Int.ediv_le_self b a0;omega
  have m0:0≤ah % b:=wm.1
  clear e1 e2 e3 ed
  have htm:ah.tmod b=ah % b:=Int.tmod_eq_emod_of_nonneg a0
  go_enter Tryz.func194,Tryz.ntmps194
  go_wp2
  go_region_held3 (fun w'=>w'.cell? ⟨w.heap.size,0,none⟩=some (.int .u64 ah)∧w'.cell? ⟨w.heap.size,1,none⟩=some (.int .u64 al)) (simp (maxDischargeDepth:=12) [*,go_sem,World.cell?_alloc_some])
   (first | (go_at_call 198;refine(div64 (ah % b) al b wm hal hb3 lm _).mono ?_;rintro e w1 ⟨rfl,hb⟩;obtain⟨hc,hf⟩:=bkeep hb))
  have hz:=hb.size
  simp at hz
  have c0:w1.cell? ⟨w.heap.size,0,none⟩=some (.int .u64 ah):=keepC hb (by simp [go_sem])
  have d0:w1.cell? ⟨w.heap.size+1,0,none⟩=some (.int .u64 0):=keepC hb (by simp [go_sem])
  have d1:w1.cell? ⟨w.heap.size+1,1,none⟩=some (.int .u64 0):=keepC hb (by simp [go_sem])
  have f0:w1.frozen? ⟨w.heap.size+1,0,none⟩=false:=by rw [(bcell hb).2 _ _ (by simp)];simp [go_sem]
  have f1:w1.frozen? ⟨w.heap.size+1,1,none⟩=false:=by rw [(bcell hb).2 _ _ (by simp)];simp [go_sem]
  clear hc hf htm
  go_wp2
  refine bodyPost_ret (v:=.tuple #[.agg #[.int .u64 (ah / b),.int .u64 (val (ah % b) al / b)],.int .u64 (val (ah % b) al % b),.bool true]) (by simp [results,Tryz.results194,go_sem,d0,d1]) rfl ⟨rfl,?_⟩
  exact((((Below.refl _ _).alloc (Nat.le_refl _) _).alloc (by simp) _).drew.trans (hb.mono (by simp;omega))).setCell (by simp) _ |>.setCell (by simp) _
end Go.Proofs.YtceoibfliggalaaGreatDoor
namespace Go.Proofs.YtceoibfliggalaaGreatDoor
open Go.RowKit Wd
theorem add_num (u v:Int) (hu:Num u) (hv:Num v) (w:World):
  Calls Tryz.prog 162 #[.agg #[.int .u64 (hiW u),.int .u64 (loW u)],.agg #[.int .u64 (hiW v),.int .u64 (loW v)]] w fun e w'=>
   e=.returned (.tuple #[.agg #[.int .u64 (hiW (addV u v)),.int .u64 (loW (addV u v))],.bool (addB u v)])∧Below w.heap.size w w':=by
 have c:=add_any (hiW u) (loW u) (hiW v) (loW v) (hi_word hu) (lo_word u) (hi_word hv) (lo_word v) w
 rw [val_words,val_words]at c
 exact c
theorem div_num (u b:Int) (hu:Num u) (hb:Word b) (w:World):
  Calls Tryz.prog 194 #[.agg #[.int .u64 (hiW u),.int .u64 (loW u)],.int .u64 b] w fun e w'=>
   e=.returned (.tuple #[.agg #[.int .u64 (hiW (divV u b)),.int .u64 (loW (divV u b))],.int .u64 (remV u b),.bool (divB b)])∧Below w.heap.size w w':=by
 have c:=div_any (hiW u) (loW u) b (hi_word hu) (lo_word u) hb w
 rw [val_words]at c
 exact c
theorem times_num (u b:Int) (hu:Num u) (hb:Word b) (w:World):
  Calls Tryz.prog 132 #[.agg #[.int .u64 (hiW u),.int .u64 (loW u)],.int .u64 b] w fun e w'=>
   e=.returned (.tuple #[.agg #[.int .u64 (hiW (timV u b)),.int .u64 (loW (timV u b))],.bool (timB u b)])∧Below w.heap.size w w':=by
 have c:=times_any (hiW u) (loW u) b (hi_word hu) (lo_word u) hb w
 rw [val_words]at c
 exact c
theorem of_num (r:Int) (hr:Word r) (w:World):
  Calls Tryz.prog 159 #[.int .u64 r] w fun e w'=>e=.returned (.agg #[.int .u64 (hiW r),.int .u64 (loW r)])∧Below w.heap.size w w':=by
 have c:=of_any r w
 rw [(hi_small hr).1,(hi_small hr).2]
 exact c
end Go.Proofs.YtceoibfliggalaaGreatDoor
namespace Go.Proofs.YtceoibfliggalaaGreatDoor
open Go.RowKit Wd
theorem keep2 {W w w0:World} {a0 a1:Addr} {v0 v1:Value} (hb:Below W.heap.size W w) (h:W.cell? a0=some v0∧W.cell? a1=some v1∧Below w0.heap.size w0 W∧w0.heap.size≤W.heap.size):w.cell? a0=some v0∧w.cell? a1=some v1∧Below w0.heap.size w0 w∧w0.heap.size≤w.heap.size:=by
 obtain⟨h0,h1,hB,hz⟩:=h
 exact⟨keepC hb h0,keepC hb h1,hB.trans (hb.mono hz),Nat.le_trans hz hb.size⟩
set_option maxHeartbeats 400000 in
theorem narrowed_num (u:Int) (hu:Num u) (w:World):
  Calls Tryz.prog 195 #[.agg #[.int .u64 (hiW u),.int .u64 (loW u)]] w fun e w'=>e=.returned (.tuple #[.int .u64 (narV u),.bool (narB u)])∧Below w.heap.size w w':=by
 by_cases h:hiW u=0
 ·obtain ⟨e1,e2⟩:=nar_hi hu h
  rw [e1,e2,h]
  go_enter Tryz.func195,Tryz.ntmps195
  go_wp2_with fail
  have HS:Hid ((w.alloc (.cells #[.int .u64 0,.int .u64 (loW u)] 174)).drew.cell? ⟨w.heap.size,0,none⟩=some (.int .u64 0)∧(w.alloc (.cells #[.int .u64 0,.int .u64 (loW u)] 174)).drew.cell? ⟨w.heap.size,1,none⟩=some (.int .u64 (loW u))∧Below w.heap.size w (w.alloc (.cells #[.int .u64 0,.int .u64 (loW u)] 174)).drew∧w.heap.size≤(w.alloc (.cells #[.int .u64 0,.int .u64 (loW u)] 174)).drew.heap.size):=⟨by simp,by simp,((Below.refl _ _).alloc (Nat.le_refl _) _).drew,by simp⟩
  go_region_held3 (fun w'=>w'.cell? ⟨w.heap.size,0,none⟩=some (.int .u64 0)∧w'.cell? ⟨w.heap.size,1,none⟩=some (.int .u64 (loW u))∧Below w.heap.size w w'∧w.heap.size≤w'.heap.size) (first | exact HS.out | exact keep2 (by assumption) (by assumption))
   (first | (go_at_call 159;refine(of_any (loW u) _).mono ?_;rintro e x ⟨rfl,hx⟩))
  have hS:x.cell? ⟨w.heap.size,0,none⟩=some (.int .u64 0)∧x.cell? ⟨w.heap.size,1,none⟩=some (.int .u64 (loW u))∧Below w.heap.size w x∧w.heap.size≤x.heap.size:=by assumption
  obtain⟨c0,c1,hB,hz⟩:=hS
  go_wp2
  go_ret2
  exact⟨rfl,hB⟩
 ·obtain ⟨e1,e2⟩:=nar_no hu h
  rw [e1,e2]
  have k:(hiW u==0)=false:=by simp [h]
  go_enter Tryz.func195,Tryz.ntmps195
  go_wp2_with fail
  have HS:Hid ((w.alloc (.cells #[.int .u64 (hiW u),.int .u64 (loW u)] 174)).drew.cell? ⟨w.heap.size,0,none⟩=some (.int .u64 (hiW u))∧(w.alloc (.cells #[.int .u64 (hiW u),.int .u64 (loW u)] 174)).drew.cell? ⟨w.heap.size,1,none⟩=some (.int .u64 (loW u))∧Below w.heap.size w (w.alloc (.cells #[.int .u64 (hiW u),.int .u64 (loW u)] 174)).drew∧w.heap.size≤(w.alloc (.cells #[.int .u64 (hiW u),.int .u64 (loW u)] 174)).drew.heap.size):=⟨by simp,by simp,((Below.refl _ _).alloc (Nat.le_refl _) _).drew,by simp⟩
  go_region_held3 (fun w'=>w'.cell? ⟨w.heap.size,0,none⟩=some (.int .u64 (hiW u))∧w'.cell? ⟨w.heap.size,1,none⟩=some (.int .u64 (loW u))∧Below w.heap.size w w'∧w.heap.size≤w'.heap.size) (first | exact HS.out | exact keep2 (by assumption) (by assumption))
   (first | (go_at_call 159;refine(of_any (loW u) _).mono ?_;rintro e x ⟨rfl,hx⟩))
  have hS:x.cell? ⟨w.heap.size,0,none⟩=some (.int .u64 (hiW u))∧x.cell? ⟨w.heap.size,1,none⟩=some (.int .u64 (loW u))∧Below w.heap.size w x∧w.heap.size≤x.heap.size:=by assumption
  obtain⟨c0,c1,hB,hz⟩:=hS
  go_wp2
  go_ret2
  exact⟨rfl,hB⟩
theorem div_yes (u b:Int) (hu:Num u) (hb:Word b) (h:b≠0) (w:World):
  Calls Tryz.prog 194 #[.agg #[.int .u64 (hiW u),.int .u64 (loW u)],.int .u64 b] w fun e w'=>
   e=.returned (.tuple #[.agg #[.int .u64 (hiW (u / b)),.int .u64 (loW (u / b))],.int .u64 (u % b),.bool true])∧Below w.heap.size w w':=by
 have c:=div_num u b hu hb w
 obtain⟨e1,e2,e3,_⟩:=div_facts hu hb h
 rw [e1,e2,e3]at c
 exact c
theorem div_no (u:Int) (hu:Num u) (w:World):
  Calls Tryz.prog 194 #[.agg #[.int .u64 (hiW u),.int .u64 (loW u)],.int .u64 0] w fun e w'=>
   e=.returned (.tuple #[.agg #[.int .u64 0,.int .u64 0],.int .u64 0,.bool false])∧Below w.heap.size w w':=
 div_num u 0 hu ⟨by omega,by omega⟩ w
theorem times_yes (u b:Int) (hu:Num u) (hb:Word b) (h:b≠0) (w:World):
  Calls Tryz.prog 132 #[.agg #[.int .u64 (hiW (u / b)),.int .u64 (loW (u / b))],.int .u64 b] w fun e w'=>
   e=.returned (.tuple #[.agg #[.int .u64 (hiW (u / b*b)),.int .u64 (loW (u / b*b))],.bool (timB (u / b) b)])∧Below w.heap.size w w':=by
 obtain⟨_,_,_,nq,_,_,_,e⟩:=div_facts hu hb h
 have c:=times_num (u / b) b nq hb w
 rw [e]at c
 exact c
set_option maxHeartbeats 400000 in
theorem down_num (u b:Int) (hu:Num u) (hb:Word b) (w:World):
  Calls Tryz.prog 185 #[.agg #[.int .u64 (hiW u),.int .u64 (loW u)],.int .u64 b] w fun e w'=>e=.returned (.tuple #[.int .u64 (dnV u b),.bool (dnB u b)])∧Below w.heap.size w w':=by
 by_cases z:b=0
 ·subst z
  rw [show dnV u 0=18446744073709551615 from rfl,show dnB u 0=false from rfl]
  go_enter Tryz.func185,Tryz.ntmps185
  go_wp2_with fail
  refine(div_no u hu _).mono ?_
  rintro e w1 ⟨rfl,hb1⟩
  go_wp2
  go_ret2
  exact⟨rfl,(((Below.refl _ _).alloc (Nat.le_refl _) _).trans (hb1.mono (by simp))).alloc (by have:=hb1.size;simp at this;omega) _⟩
 ·obtain ⟨_,_,_,nq,_⟩:=div_facts hu hb z
  rw [show dnV u b=narV (u / b) by unfold dnV;rw [if_neg z],show dnB u b=narB (u / b) by unfold dnB;rw [if_neg z]]
  go_enter Tryz.func185,Tryz.ntmps185
  go_wp2_with fail
  refine(div_yes u b hu hb z _).mono ?_
  rintro e w1 ⟨rfl,hb1⟩
  go_wp2_with fail
  refine(narrowed_num (u / b) nq _).mono ?_
  rintro e w2 ⟨rfl,hb2⟩
  go_wp2
  go_ret2
  have z1:=hb1.size
  simp at z1
  exact⟨rfl,((((Below.refl _ _).alloc (Nat.le_refl _) _).trans (hb1.mono (by simp))).alloc (by omega) _).trans (hb2.mono (by simp;omega))⟩
set_option maxHeartbeats 400000 in
theorem up_num (u b:Int) (hu:Num u) (hb:Word b) (w:World):
  Calls Tryz.prog 193 #[.agg #[.int .u64 (hiW u),.int .u64 (loW u)],.int .u64 b] w fun e w'=>e=.returned (.tuple #[.int .u64 (upV u b),.bool (upB u b)])∧Below w.heap.size w w':=by
 by_cases z:b=0
 ·subst z
  rw [show upV u 0=18446744073709551615 from rfl,show upB u 0=false from rfl]
  go_enter Tryz.func193,Tryz.ntmps193
  go_wp2_with fail
  refine(div_no u hu _).mono ?_
  rintro e w1 ⟨rfl,hb1⟩
  go_wp2
  go_ret2
  exact⟨rfl,(((Below.refl _ _).alloc (Nat.le_refl _) _).trans (hb1.mono (by simp))).alloc (by have:=hb1.size;simp at this;omega) _⟩
 ·obtain ⟨_,_,_,nq,m0,m1,em,_⟩:=div_facts hu hb z
  rw [show upV u b=narV (ceilV u b) by unfold upV;rw [if_neg z],show upB u b=narB (ceilV u b) by unfold upB;rw [if_neg z]]
  by_cases m:u % b=0
  ·have e5:ceilV u b=u / b:=by unfold ceilV;rw [if_pos m]
   have e6:u / b*b=u:=by omega
   rw [e5]
   go_enter Tryz.func193,Tryz.ntmps193
   go_wp2_with fail
   refine(div_yes u b hu hb z _).mono ?_
   rintro e w1 ⟨rfl,hb1⟩
   have c0:w1.cell? ⟨w.heap.size,0,none⟩=some (.int .u64 (hiW u)):=keepC hb1 (by simp)
   have c1:w1.cell? ⟨w.heap.size,1,none⟩=some (.int .u64 (loW u)):=keepC hb1 (by simp)
   have z1:=hb1.size
   simp at z1
   go_wp2_with fail
   refine(times_yes u b hu hb z _).mono ?_
   rw [e6]
   rintro e w2 ⟨rfl,hb2⟩
   have z2:=hb2.size
   simp at z2
   have n2:w.heap.size<w2.heap.size:=by omega
   have n3:w1.heap.size<w2.heap.size:=by omega
   replace c0:=keepC hb2 (allocC _ c0)
   replace c1:=keepC hb2 (allocC _ c1)
   have q0:w2.cell? ⟨w1.heap.size,0,none⟩=some (.int .u64 (hiW (u / b))):=keepC hb2 (by simp)
   have q1:w2.cell? ⟨w1.heap.size,1,none⟩=some (.int .u64 (loW (u / b))):=keepC hb2 (by simp)
   go_wp2_with fail
   refine(narrowed_num (u / b) nq _).mono ?_
   rintro e w3 ⟨rfl,hb3⟩
   go_wp2
   go_ret2
   exact⟨rfl,((((((Below.refl _ _).alloc (Nat.le_refl _) _).trans (hb1.mono (by simp))).alloc (by omega) _).trans (hb2.mono (by simp;omega))).alloc (by omega) _).trans (hb3.mono (by simp;omega))⟩
  ·have e5:ceilV u b=u / b+1:=by unfold ceilV;rw [if_neg m]
   obtain⟨ea,na⟩:=div_more hu hb z m
   rw [e5]
   have hne:=words_ne (show u / b*b≠u by omega)
   have k2:(hiW (u / b*b)==hiW u&&loW (u / b*b)==loW u)=false:=by simpa using hne
   go_enter Tryz.func193,Tryz.ntmps193
   go_wp2_with fail
   refine(div_yes u b hu hb z _).mono ?_
   rintro e w1 ⟨rfl,hb1⟩
   have c0:w1.cell? ⟨w.heap.size,0,none⟩=some (.int .u64 (hiW u)):=keepC hb1 (by simp)
   have c1:w1.cell? ⟨w.heap.size,1,none⟩=some (.int .u64 (loW u)):=keepC hb1 (by simp)
   have z1:=hb1.size
   simp at z1
   go_wp2_with fail
   refine(times_yes u b hu hb z _).mono ?_
   rintro e w2 ⟨rfl,hb2⟩
   have z2:=hb2.size
   simp at z2
   have n2:w.heap.size<w2.heap.size:=by omega
   have n3:w1.heap.size<w2.heap.size:=by omega
   replace c0:=keepC hb2 (allocC _ c0)
   replace c1:=keepC hb2 (allocC _ c1)
   have q0:w2.cell? ⟨w1.heap.size,0,none⟩=some (.int .u64 (hiW (u / b))):=keepC hb2 (by simp)
   have q1:w2.cell? ⟨w1.heap.size,1,none⟩=some (.int .u64 (loW (u / b))):=keepC hb2 (by simp)
   have f0:w2.frozen? ⟨w1.heap.size,0,none⟩=false:=by rw [(bcell hb2).2 _ _ (by simp)];simp [go_sem]
   have f1:w2.frozen? ⟨w1.heap.size,1,none⟩=false:=by rw [(bcell hb2).2 _ _ (by simp)];simp [go_sem]
   go_wp2_with fail
   all_goals
    clear c0 c1
    go_region_with (first
     | (go_at_call 159;refine(of_num 1 ⟨by omega,by omega⟩ _).mono ?_;rintro e x ⟨rfl,hx⟩;have x0:x.cell? ⟨w1.heap.size,0,none⟩=some (.int .u64 (hiW (u / b))):=keepC hx (allocC _ q0);have x1:x.cell? ⟨w1.heap.size,1,none⟩=some (.int .u64 (loW (u / b))):=keepC hx (allocC _ q1);have y0:x.frozen? ⟨w1.heap.size,0,none⟩=false:=keepF hx (allocC _ q0) (allocF _ _ f0);have y1:x.frozen? ⟨w1.heap.size,1,none⟩=false:=keepF hx (allocC _ q1) (allocF _ _ f1))
     | (go_at_call 162;refine(add_num (u / b) 1 nq ⟨by omega,by unfold top;omega⟩ _).mono ?_;rw [ea];rintro e y ⟨rfl,hy⟩;have u0:=keepC hy x0;have u1:=keepC hy x1;have v0:=keepF hy x0 y0;have v1:=keepF hy x1 y1))
    all_goals
     have s1:=hx.size
     have s2:=hy.size
     simp at s1
     have HY:Hid (Below w.heap.size w y):=(((((((Below.refl _ _).alloc (Nat.le_refl _) _).trans (hb1.mono (by simp))).alloc (by omega) _).trans (hb2.mono (by simp;omega))).alloc (by omega) _).drew.trans (hx.mono (by simp;omega))).trans (hy.mono (by omega))
     go_wp2_with fail
     refine(narrowed_num (u / b+1) na _).mono ?_
     rintro e w3 ⟨rfl,hb3⟩
     go_wp2
     go_ret2
     exact⟨rfl,((HY.out.setCell (by simp;omega) _).setCell (by simp;omega) _).trans (hb3.mono (by simp;omega))⟩
end Go.Proofs.YtceoibfliggalaaGreatDoor
namespace Go.Proofs.YtceoibfliggalaaGreatDoor
open Go.RowKit Wd
namespace Wd
theorem word32:Word 4294967296:=⟨by omega,by omega⟩
end Wd
theorem divDown_any (a b:Int) (ha:Word a) (hb:Word b) (w:World):
  Calls Tryz.prog 168 #[.int .u64 a,.int .u64 b] w fun e w'=>e=.returned (.tuple #[.int .u64 (dnV (a*4294967296) b),.bool (dnB (a*4294967296) b)])∧Below w.heap.size w w':=by
 go_enter Tryz.func168,Tryz.ntmps168
 go_wp2_with fail
 refine(mul_any a 4294967296 ha word32 _).mono ?_
 rintro e w1 ⟨rfl,hb1⟩
 go_wp2_with fail
 refine(down_num (a*4294967296) b (mul_num ha word32) hb _).mono ?_
 rintro e w2 ⟨rfl,hb2⟩
 go_wp2
 go_ret2
 exact⟨rfl,hb1.trans (hb2.mono hb1.size)⟩
theorem divUp_any (a b:Int) (ha:Word a) (hb:Word b) (w:World):
  Calls Tryz.prog 181 #[.int .u64 a,.int .u64 b] w fun e w'=>e=.returned (.tuple #[.int .u64 (upV (a*4294967296) b),.bool (upB (a*4294967296) b)])∧Below w.heap.size w w':=by
 go_enter Tryz.func181,Tryz.ntmps181
 go_wp2_with fail
 refine(mul_any a 4294967296 ha word32 _).mono ?_
 rintro e w1 ⟨rfl,hb1⟩
 go_wp2_with fail
 refine(up_num (a*4294967296) b (mul_num ha word32) hb _).mono ?_
 rintro e w2 ⟨rfl,hb2⟩
 go_wp2
 go_ret2
 exact⟨rfl,hb1.trans (hb2.mono hb1.size)⟩
end Go.Proofs.YtceoibfliggalaaGreatDoor

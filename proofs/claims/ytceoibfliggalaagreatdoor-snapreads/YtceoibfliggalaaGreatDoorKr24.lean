/-
  TEXTS: LgM, Dcy.
-/
import Derived.Test.YtceoibfliggalaaGreatDoorKr2
import Derived.RowKit
import Derived.Test.YtceoibfliggalaaGreatDoorKr3
import Derived.Test.YtceoibfliggalaaGreatDoorKr23
import Derived.Test.YtceoibfliggalaaGreatDoorKr4
namespace Go.Proofs.YtceoibfliggalaaGreatDoor.Lr
set_option maxRecDepth 20000
open Go.RowKit Wd
namespace Lg
def Wds (l:List Int):Prop:=∀u,u∈l→Word u
def okA (l:List Int) (a:Int):Bool:=decide (0≤a)&&decide (a<l.length)
def ownV (l:List Int) (a:Int):Int:=if okA l a then(l[a.toNat]?).getD 0 else 0
theorem okA_iff {l:List Int} {a:Int}:okA l a=true↔0≤a∧a<l.length:=by simp [okA]
structure Jb where
 ac:Int
 nd:Int
 lm:Int
 sb:Int
 st:Int
 sr:Int
 en:Int
 sa:Option Addr
 sl:Nat
 sc:Nat
def ranZ (now:Int) (j:Jb):Int:=if j.st=3∨j.st=4∨j.st=5 then j.en - j.sr else if j.st=2 then now - j.sr else 0
def oneZ (acc:List Int) (now:Int) (j:Jb):Int:=if j.ac∈acc then j.nd*ranZ now j else 0
def rawZ (acc:List Int) (now:Int):List Jb→Int
 | []=>0
 | j::js=>oneZ acc now j+rawZ acc now js
def Cgr (x y:Int):Prop:=∃k,x=y+18446744073709551616*k
theorem Cgr.trans {x y z:Int} (h:Cgr x y) (g:Cgr y z):Cgr x z:=by obtain⟨k,h⟩:=h;obtain⟨m,g⟩:=g;exact⟨k+m,by omega⟩
theorem Cgr.add {x y u v:Int} (h:Cgr x y) (g:Cgr u v):Cgr (x+u) (y+v):=by obtain⟨k,h⟩:=h;obtain⟨m,g⟩:=g;exact⟨k+m,by omega⟩
theorem Cgr.mul {x y:Int} (n:Int) (h:Cgr x y):Cgr (n*x) (n*y):=by
 obtain⟨k,rfl⟩:=h
 refine⟨n*k,?_⟩
 rw [Int.mul_add,←Int.mul_assoc,←Int.mul_assoc,Int.mul_comm n 18446744073709551616]
theorem wrap_cgr (x:Int):Cgr (wrap64 x) x:=by
 unfold wrap64
 refine⟨-((x+9223372036854775808) / 18446744073709551616),?_⟩
 omega
theorem wrap_of {x y:Int} (h:Cgr x y):wrap64 x=wrap64 y:=by
 obtain⟨k,rfl⟩:=h
 unfold wrap64
 omega
theorem wrap_one (s n d:Int):wrap64 (wrap64 s+wrap64 (n*wrap64 d))=wrap64 (s+n*d):=
 wrap_of ((wrap_cgr s).add ((wrap_cgr _).trans ((wrap_cgr d).mul n)))
theorem raw_app (acc:List Int) (now:Int):∀a b:List Jb,rawZ acc now (a++b)=rawZ acc now a+rawZ acc now b
 | [],b=>by simp [rawZ]
 | j::a,b=>by simp only [List.cons_append,rawZ,raw_app acc now a b];omega
theorem raw_snoc (acc:List Int) (now:Int) (js:List Jb) (j:Jb):rawZ acc now (js++ [j])=rawZ acc now js+oneZ acc now j:=by
 rw [raw_app];simp [rawZ]
theorem raw_take {acc:List Int} {now:Int} {js:List Jb} {i:Nat} {j:Jb} (h:js[i]?=some j):rawZ acc now (js.take (i+1))=rawZ acc now (js.take i)+oneZ acc now j:=by
 obtain⟨hi,rfl⟩:=List.getElem?_eq_some_iff.1 h
 rw [List.take_succ_eq_append_getElem hi,raw_snoc]
end Lg
end Go.Proofs.YtceoibfliggalaaGreatDoor.Lr
namespace Go.Proofs.YtceoibfliggalaaGreatDoor
set_option maxRecDepth 20000
open Go.RowKit Wd Ld
def BadF (p h:Int):Prop:=p<1∨1048576<p∨h<1∨1073741824<h
def expV (p h:Int):Nat:=(p*4294967296 / h).toNat
theorem exp_eq {p h:Int} (hp:1≤p) (hh:1≤h):p*4294967296 / h=(expV p h:Int):=by
 have:0≤p*4294967296 / h:=Int.ediv_nonneg (by omega) (by omega)
 unfold expV;omega
theorem exp_lt {p h:Int} (hp:1≤p) (hp':p≤1048576) (hh:1≤h):expV p h≤4503599627370496:=by
 have h1:p*4294967296 / h≤p*4294967296:=Int.ediv_le_self _ (by omega)
 have h2:=exp_eq hp hh
 omega
end Go.Proofs.YtceoibfliggalaaGreatDoor
namespace Go.Proofs.YtceoibfliggalaaGreatDoor
open Go.RowKit Wd Ld
theorem exp_dn {p h:Int} (hp:1≤p) (hp':p≤1048576) (hh:1≤h):dnV (p*4294967296) h=(expV p h:Nat):=by
 have e5:=exp_lt hp hp' hh
 have e4:=exp_eq hp hh
 unfold dnV narV
 rw [if_neg (by omega),e4,if_pos (by omega)]
theorem factor_good {p h:Int} (hb:¬BadF p h) (w:World) (hT:Tab w):
  Calls Tryz.prog 139 #[.int .i64 p,.int .i64 h] w fun e w'=>e=.returned (.tuple #[.int .u64 (halfN (expV p h):Nat),.int .i64 0])∧Below w.heap.size w w':=by
 have h1:¬p<1:=fun h=>hb (.inl h)
 have h2:¬1048576<p:=fun h=>hb (.inr (.inl h))
 have h3:¬h<1:=fun h=>hb (.inr (.inr (.inl h)))
 have h4:¬1073741824<h:=fun h=>hb (.inr (.inr (.inr h)))
 have e5:=exp_lt (p:=p) (h:=h) (by omega) (by omega) (by omega)
 have e4:=exp_dn (p:=p) (h:=h) (by omega) (by omega) (by omega)
 have e1:IntKind.u64.wrap p=p:=by rw [IntKind.wrap_u64];omega
 have e2:IntKind.u64.wrap h=h:=by rw [IntKind.wrap_u64];omega
 have cd:=divDown_any p h ⟨by omega,by omega⟩ ⟨by omega,by omega⟩
 rw [e4]at cd
 clear e4
 go_enter Tryz.func139,Tryz.ntmps139
 go_wp2_with fail
 refine(cd _).mono ?_
 rintro e w1 ⟨rfl,b1⟩
 go_wp2_with fail
 refine(half_any (expV p h) (by omega) _ (Tab.below b1 hT)).mono ?_
 rintro e w2 ⟨rfl,b2⟩
 go_wp2
 go_ret2
 exact⟨rfl,b1.trans (b2.mono b1.size)⟩
end Go.Proofs.YtceoibfliggalaaGreatDoor

/-
  TEXTS: SrM, AdA, SrG.
-/
import Derived.Test.YtceoibfliggalaaGreatDoorKr2
import Derived.Test.YtceoibfliggalaaGreatDoorKr10
import Derived.Recover
namespace Go.Proofs.YtceoibfliggalaaGreatDoor
structure Ev where
 tm:Int
 tk:Bool
 jx:Nat
def Ev.R (x y:Ev):Prop:=x.tm<y.tm∨(x.tm=y.tm∧(x.tk=true→y.tk=true))
def Ev.O (x y:Ev):Prop:=x.tk=true→y.tk=true
theorem Ev.R.le {x y:Ev} (h:x.R y):x.tm≤y.tm:=by
 rcases h with h | h<;>omega
theorem Ev.R.of_lt {x y:Ev} (h:x.tm<y.tm):x.R y:=.inl h
theorem Ev.R.of_le {x y:Ev} (h:x.tm≤y.tm) (o:x.O y):x.R y:=by
 rcases (by omega:x.tm<y.tm∨x.tm=y.tm)with h | h
 ·exact .inl h
 ·exact .inr ⟨h,o⟩
def SrtE (l:List Ev):Prop:=l.Pairwise Ev.R
def AcrE (a b:List Ev):Prop:=∀x∈a,∀y∈b,x.O y
theorem SrtE.nil:SrtE []:=List.Pairwise.nil
theorem srt_app {a b:List Ev}:SrtE (a++b)↔SrtE a∧SrtE b∧∀x∈a,∀y∈b,x.R y:=List.pairwise_append
theorem srt_cons {x:Ev} {l:List Ev}:SrtE (x::l)↔(∀y∈l,x.R y)∧SrtE l:=List.pairwise_cons
theorem AcrE.perm {a b a' b':List Ev} (h:AcrE a b) (ha:a'.Perm a) (hb:b'.Perm b):AcrE a' b':=
 fun x hx y hy=>h x (ha.mem_iff.1 hx) y (hb.mem_iff.1 hy)
theorem SrtE.get {l:List Ev} (h:SrtE l) {i j:Nat} {x y:Ev} (hi:l[i]?=some x) (hj:l[j]?=some y) (hij:i<j):x.R y:=by
 obtain⟨h1,rfl⟩:=List.getElem?_eq_some_iff.1 hi
 obtain⟨h2,rfl⟩:=List.getElem?_eq_some_iff.1 hj
 exact List.pairwise_iff_getElem.1 h i j h1 h2 hij
def swapE (l:List Ev) (i j:Nat):List Ev:=match l[i]?,l[j]? with
 | some x,some y=>(l.set i y).set j x
 | _,_=>l
theorem swapE_at {l:List Ev} {i j:Nat} {x y:Ev} (hi:l[i]?=some x) (hj:l[j]?=some y):swapE l i j=(l.set i y).set j x:=by
 simp only [swapE,hi,hj]
theorem set_app {α:Type} (U V:List α) (x y:α) (i:Nat) (hi:i=U.length):(U++x::V).set i y=U++y::V:=by
 subst hi
 rw [List.set_append_right _ _ (Nat.le_refl _),Nat.sub_self]
 rfl
theorem get_app {α:Type} (U V:List α) (x:α) (i:Nat) (hi:i=U.length):(U++x::V)[i]?=some x:=by
 subst hi
 rw [List.getElem?_append_right (Nat.le_refl _),Nat.sub_self]
 rfl
theorem swap_mid (U V W:List Ev) (x y:Ev) {i j:Nat} (hi:i=U.length) (hj:j=U.length+1+V.length):swapE (U++x::(V++y::W)) i j=U++y::(V++x::W):=by
 have e1:U++x::(V++y::W)=(U++x::V)++y::W:=by simp
 have h1:=get_app U (V++y::W) x i hi
 have h2:(U++x::(V++y::W))[j]?=some y:=by rw [e1];exact get_app _ _ _ _ (by simp;omega)
 rw [swapE_at h1 h2,set_app _ _ _ _ _ hi,show U++y::(V++y::W)=(U++y::V)++y::W by simp,set_app _ _ _ _ _ (by simp;omega)]
 simp
theorem swap_comm' (l:List Ev) {i j:Nat} (hij:i≠j):swapE l i j=swapE l j i:=by
 unfold swapE
 cases hi:l[i]?<;>cases hj:l[j]?<;>simp only
 exact List.set_comm _ _ hij
theorem swap_right (P B1 B2:List Ev) (x:Ev) {t:Nat} (ht:t<B1.length):swapE (P++(B1.take t++x::(B1.drop t++B2))) (P.length+t) (P.length+t+1)=P++(B1.take (t+1)++x::(B1.drop (t+1)++B2)):=by
 have e1:B1.drop t=B1[t]::B1.drop (t+1):=List.drop_eq_getElem_cons ht
 have e2:B1.take (t+1)=B1.take t++ [B1[t]]:=List.take_succ_eq_append_getElem ht
 have h:=swap_mid (P++B1.take t) [] (B1.drop (t+1)++B2) x B1[t] (i:=P.length+t) (j:=P.length+t+1) (by simp;omega) (by simp;omega)
 rw [e1,e2]
 simp only [List.append_assoc,List.cons_append,List.nil_append]at h ⊢
 exact h
theorem swap_left (P A2 Q:List Ev) (x:Ev) {t:Nat} (ht:t<A2.length):swapE (P++(A2.take (t+1)++x::(A2.drop (t+1)++Q))) (P.length+t+1) (P.length+t)=P++(A2.take t++x::(A2.drop t++Q)):=by
 have e1:A2.drop t=A2[t]::A2.drop (t+1):=List.drop_eq_getElem_cons ht
 have e2:A2.take (t+1)=A2.take t++ [A2[t]]:=List.take_succ_eq_append_getElem ht
 have h:=swap_mid (P++A2.take t) [] (A2.drop (t+1)++Q) A2[t] x (i:=P.length+t) (j:=P.length+t+1) (by simp;omega) (by simp;omega)
 rw [swap_comm' _ (by omega),e1,e2]
 simp only [List.append_assoc,List.cons_append,List.nil_append]at h ⊢
 exact h
theorem swap_range (P X M Y Q:List Ev) (n:Nat) (hX:X.length=n) (hY:Y.length=n) {i:Nat} (hi:i<n):
  swapE (P++(Y.take i++(X.drop i++(M++(X.take i++(Y.drop i++Q)))))) (P.length+i) (P.length+n+M.length+i)=P++(Y.take (i+1)++(X.drop (i+1)++(M++(X.take (i+1)++(Y.drop (i+1)++Q))))):=by
 have hx:i<X.length:=by omega
 have hy:i<Y.length:=by omega
 have h:=swap_mid (P++Y.take i) (X.drop (i+1)++(M++X.take i)) (Y.drop (i+1)++Q) X[i] Y[i] (i:=P.length+i) (j:=P.length+n+M.length+i) (by simp;omega) (by simp;omega)
 rw [List.drop_eq_getElem_cons hx,List.drop_eq_getElem_cons hy,List.take_succ_eq_append_getElem hx,List.take_succ_eq_append_getElem hy]
 simp only [List.append_assoc,List.cons_append,List.nil_append]at h ⊢
 exact h
theorem ins_done {C1 C2:List Ev} {x:Ev} (hs:SrtE (C1++C2)) (h2:∀y∈C2,x.tm<y.tm) (h1:∀y,C1.getLast?=some y→y.tm≤x.tm) (ho:∀y∈C1,y.O x):SrtE (C1++x::C2):=by
 obtain⟨s1,s2,s3⟩:=srt_app.1 hs
 have hC:∀y∈C1,y.tm≤x.tm:=by
  intro y hy
  cases hl:C1.getLast? with
  | none=>rw [List.getLast?_eq_none_iff]at hl;subst hl;cases hy
  | some z=>
   have hz:=h1 z hl
   obtain⟨C0,e⟩:=List.getLast?_eq_some_iff.1 hl
   subst e
   rcases List.mem_append.1 hy with hy | hy
   ·have:=((srt_app.1 s1).2.2 y hy z (by simp)).le;omega
   ·simp at hy;subst hy;exact hz
 refine srt_app.2 ⟨s1,srt_cons.2 ⟨fun y hy=>.of_lt (h2 y hy),s2⟩,fun y hy z hz=>?_⟩
 rcases List.mem_cons.1 hz with rfl | hz
 ·exact .of_le (hC y hy) (ho y hy)
 ·exact s3 y hy z hz
def Half (T:Nat→Bool) (lo hi i j:Nat):Prop:=lo≤i∧i≤j∧j≤hi∧(∀k,lo≤k→k<i→T k=true)∧∀k,j≤k→k<hi→T k=false
def Mono (T:Nat→Bool) (lo hi:Nat):Prop:=∀k l,lo≤k→k<l→l<hi→T l=true→T k=true
theorem Half.start {T:Nat→Bool} {lo hi:Nat} (h:lo≤hi):Half T lo hi lo hi:=⟨Nat.le_refl _,h,Nat.le_refl _,fun k h1 h2=>by omega,fun k h1 h2=>by omega⟩
theorem Half.up {T:Nat→Bool} {lo hi i j h:Nat} (H:Half T lo hi i j) (hm:Mono T lo hi) (h1:i≤h) (h2:h<j) (ht:T h=true):Half T lo hi (h+1) j:=by
 obtain⟨a,b,c,d,e⟩:=H
 refine⟨by omega,by omega,c,fun k hk1 hk2=>?_,e⟩
 by_cases hk:k=h
 ·rw [hk];exact ht
 ·exact hm k h hk1 (by omega) (by omega) ht
theorem Half.down {T:Nat→Bool} {lo hi i j h:Nat} (H:Half T lo hi i j) (hm:Mono T lo hi) (h1:i≤h) (h2:h<j) (ht:T h=false):Half T lo hi i h:=by
 obtain⟨a,b,c,d,e⟩:=H
 refine⟨a,h1,by omega,d,fun k hk1 hk2=>?_⟩
 by_cases hk:k=h
 ·rw [hk];exact ht
 ·cases hT:T k with
  | false=>rfl
  | true=>
   have:=hm h k (by omega) (by omega) hk2 hT
   rw [ht]at this
   exact this.symm
def tmE (D:List Ev) (k:Nat):Int:=match D[k]? with
 | some x=>x.tm
 | none=>0
theorem tmE_at {D:List Ev} {k:Nat} {x:Ev} (h:D[k]?=some x):tmE D k=x.tm:=by simp only [tmE,h]
theorem tm_rise {P A Q:List Ev} (hs:SrtE A) {k l:Nat} (h1:P.length≤k) (h2:k<l) (h3:l<P.length+A.length):tmE (P++(A++Q)) k≤tmE (P++(A++Q)) l:=by
 have ek:(P++(A++Q))[k]?=some (A[k - P.length]'(by omega)):=by
  rw [List.getElem?_append_right h1,List.getElem?_append_left (by omega)];exact List.getElem?_eq_getElem _
 have el:(P++(A++Q))[l]?=some (A[l - P.length]'(by omega)):=by
  rw [List.getElem?_append_right (by omega),List.getElem?_append_left (by omega)];exact List.getElem?_eq_getElem _
 rw [tmE_at ek,tmE_at el]
 exact(hs.get (List.getElem?_eq_getElem _) (List.getElem?_eq_getElem _) (by omega)).le
theorem mem_take_at {A:List Ev} {n:Nat} {y:Ev} (h:y∈A.take n):∃k,k<n∧A[k]?=some y:=by
 obtain⟨k,hk⟩:=List.getElem?_of_mem h
 have h1:=(List.getElem?_eq_some_iff.1 hk).1
 refine⟨k,by simp at h1;omega,?_⟩
 rw [List.getElem?_take_of_lt (by simp at h1;omega)]at hk
 exact hk
theorem mem_drop_at {A:List Ev} {n:Nat} {y:Ev} (h:y∈A.drop n):∃k,n≤k∧A[k]?=some y:=by
 obtain⟨k,hk⟩:=List.getElem?_of_mem h
 exact⟨n+k,by omega,by rw [List.getElem?_drop]at hk;exact hk⟩
theorem one_left {B:List Ev} {x:Ev} (hB:SrtE B) (ho:AcrE [x] B) {i:Nat} (h1:∀y∈B.take i,y.tm<x.tm) (h2:∀y∈B.drop i,x.tm≤y.tm):SrtE (B.take i++x::B.drop i)∧(B.take i++x::B.drop i).Perm (x::B):=by
 constructor
 ·have hs:SrtE (B.take i++B.drop i):=by rw [List.take_append_drop];exact hB
  obtain⟨s1,s2,s3⟩:=srt_app.1 hs
  refine srt_app.2 ⟨s1,srt_cons.2 ⟨fun y hy=>.of_le (h2 y hy) (ho x (by simp) y (List.mem_of_mem_drop hy)),s2⟩,fun y hy z hz=>?_⟩
  rcases List.mem_cons.1 hz with rfl | hz
  ·exact .of_lt (h1 y hy)
  ·exact s3 y hy z hz
 ·refine List.perm_middle.trans ?_
  rw [List.take_append_drop]
theorem one_right {A:List Ev} {x:Ev} (hA:SrtE A) (ho:AcrE A [x]) {i:Nat} (h1:∀y∈A.take i,y.tm≤x.tm) (h2:∀y∈A.drop i,x.tm<y.tm):SrtE (A.take i++x::A.drop i)∧(A.take i++x::A.drop i).Perm (A++ [x]):=by
 constructor
 ·have hs:SrtE (A.take i++A.drop i):=by rw [List.take_append_drop];exact hA
  obtain⟨s1,s2,s3⟩:=srt_app.1 hs
  refine srt_app.2 ⟨s1,srt_cons.2 ⟨fun y hy=>.of_lt (h2 y hy),s2⟩,fun y hy z hz=>?_⟩
  rcases List.mem_cons.1 hz with rfl | hz
  ·exact .of_le (h1 y hy) (ho y (List.mem_of_mem_take hy) _ (by simp))
  ·exact s3 y hy z hz
 ·refine List.perm_middle.trans ?_
  rw [List.take_append_drop]
  exact(List.perm_append_singleton x A).symm
theorem cross {L1 L2 R1 R2:List Ev} (hL:SrtE (L1++L2)) (hR:SrtE (R1++R2)) (ho:AcrE (L1++L2) (R1++R2))
  (h1:∀x y,L1.getLast?=some x→R2.head?=some y→x.tm≤y.tm) (h2:∀x y,R1.getLast?=some x→L2.head?=some y→x.tm<y.tm):
  ∀x∈L1++R1,∀y∈L2++R2,x.R y:=by
 obtain⟨l1,l2,l3⟩:=srt_app.1 hL
 obtain⟨r1,r2,r3⟩:=srt_app.1 hR
 have hlast:∀ {l:List Ev},SrtE l→∀x∈l,∃z,l.getLast?=some z∧x.tm≤z.tm:=by
  intro l hs x hx
  cases hl:l.getLast? with
  | none=>rw [List.getLast?_eq_none_iff]at hl;subst hl;cases hx
  | some z=>
   refine⟨z,rfl,?_⟩
   obtain⟨l0,e⟩:=List.getLast?_eq_some_iff.1 hl
   subst e
   rcases List.mem_append.1 hx with hx | hx
   ·exact ((srt_app.1 hs).2.2 x hx z (by simp)).le
   ·simp at hx;subst hx;exact Int.le_refl _
 have hhead:∀ {l:List Ev},SrtE l→∀x∈l,∃z,l.head?=some z∧z.tm≤x.tm:=by
  intro l hs x hx
  cases l with
  | nil=>cases hx
  | cons z l=>
   refine⟨z,rfl,?_⟩
   rcases List.mem_cons.1 hx with rfl | hx
   ·exact Int.le_refl _
   ·exact ((srt_cons.1 hs).1 x hx).le
 intro x hx y hy
 rcases List.mem_append.1 hx with hx | hx<;>rcases List.mem_append.1 hy with hy | hy
 ·exact l3 x hx y hy
 ·obtain ⟨u,hu,hu1⟩:=hlast l1 x hx
  obtain⟨v,hv,hv1⟩:=hhead r2 y hy
  have:=h1 u v hu hv
  exact .of_le (by omega) (ho x (List.mem_append_left _ hx) y (List.mem_append_right _ hy))
 ·obtain ⟨u,hu,hu1⟩:=hlast r1 x hx
  obtain⟨v,hv,hv1⟩:=hhead l2 y hy
  have:=h2 u v hu hv
  exact .of_lt (by omega)
 ·exact r3 x hx y hy
theorem cross_done {L1 L2 R1 R2 C1 C2:List Ev} (hx:∀x∈L1++R1,∀y∈L2++R2,x.R y) (p1:C1.Perm (L1++R1)) (p2:C2.Perm (L2++R2)) (s1:SrtE C1) (s2:SrtE C2):SrtE (C1++C2)∧(C1++C2).Perm ((L1++L2)++(R1++R2)):=by
 refine⟨srt_app.2 ⟨s1,s2,fun x h y g=>hx x (p1.mem_iff.1 h) y (p2.mem_iff.1 g)⟩,?_⟩
 refine(p1.append p2).trans ?_
 simp only [List.append_assoc]
 refine List.Perm.append_left _ ?_
 rw [← List.append_assoc,←List.append_assoc]
 exact List.Perm.append_right _ List.perm_append_comm
end Go.Proofs.YtceoibfliggalaaGreatDoor
namespace Go.Proofs.YtceoibfliggalaaGreatDoor
open Go.RowKit Wd Tr Cg Lg
def thrown (E:Int):List PanicEntry:= [{v:=.iface 36 (.int .i64 E),recovered:=false}]
def asksE (b:Bool) (E:Int):Ending:=if b then .returned (.tuple #[])else .panicked (thrown E)
theorem asksE_yes (E:Int):asksE true E=.returned (.tuple #[]):=rfl
theorem asksE_no (E:Int):asksE false E=.panicked (thrown E):=rfl
theorem need_yes (E:Int) (w:World):Calls Tryz.prog 103 #[.bool true,.int .i64 E] w fun e w'=>e=.returned (.tuple #[])∧w'=w:=by
 go_enter Tryz.func103,Tryz.ntmps103
 go_wp2
 go_end0
 exact⟨rfl,rfl⟩
theorem need_no (E:Int) (w:World):Calls Tryz.prog 103 #[.bool false,.int .i64 E] w fun e w'=>e=.panicked (thrown E)∧w'=w:=by
 go_enter Tryz.func103,Tryz.ntmps103
 go_wp2
 exact⟨rfl,rfl,rfl⟩
theorem need_any (b:Bool) (E:Int) (w:World):Calls Tryz.prog 103 #[.bool b,.int .i64 E] w fun e w'=>e=asksE b E∧w'=w:=by
 cases b with
 | true=>exact need_yes E w
 | false=>exact need_no E w
def fromB (a b n:Int):Bool:=decide (a≤n)&&decide (n≤b)
theorem from_any (a b n:Int) (w:World):Calls Tryz.prog 104 #[.int .i64 a,.int .i64 b,.int .i64 n] w fun e w'=>e=.returned (.bool (fromB a b n))∧w'=w:=by
 by_cases h:a≤n
 ·go_enter Tryz.func104,Tryz.ntmps104
  go_wp2
  go_ret
  exact⟨by simp [fromB,h],rfl⟩
 ·go_enter Tryz.func104,Tryz.ntmps104
  go_wp2
  go_ret
  exact⟨by rw [fromB,decide_eq_false (by omega)];rfl,rfl⟩
def cmpV (a b:Int):Int:=if a<b then -1 else if b<a then 1 else 0
theorem isNaN_any (a:Int) (w:World):Calls Tryz.prog 179 #[.int .i64 a] w fun e w'=>e=.returned (.bool false)∧w'=w:=by
 go_enter Tryz.func179,Tryz.ntmps179
 go_wp2
 go_ret
 exact⟨by simp,rfl⟩
theorem comp_any (a b:Int) (w:World):Calls Tryz.prog 152 #[.int .i64 a,.int .i64 b] w fun e w'=>e=.returned (.int .i64 (cmpV a b))∧w'=w:=by
 have hn:=isNaN_any
 by_cases h:a<b
 ·have e:cmpV a b= -1:=by simp [cmpV,h]
  rw [e]
  go_enter Tryz.func152,Tryz.ntmps152
  go_wp2_with (go_at_call 179;refine(hn _ _).mono ?_;rintro e w1 ⟨rfl,rfl⟩)
  go_ret
  exact⟨rfl,rfl⟩
 ·by_cases g:b<a
  ·have e:cmpV a b=1:=by simp [cmpV,h,g]
   rw [e]
   go_enter Tryz.func152,Tryz.ntmps152
   go_wp2_with (go_at_call 179;refine(hn _ _).mono ?_;rintro e w1 ⟨rfl,rfl⟩)
   go_ret
   exact⟨rfl,rfl⟩
  ·have e:cmpV a b=0:=by simp [cmpV,h,g]
   rw [e]
   go_enter Tryz.func152,Tryz.ntmps152
   go_wp2_with (go_at_call 179;refine(hn _ _).mono ?_;rintro e w1 ⟨rfl,rfl⟩)
   go_ret
   exact⟨rfl,rfl⟩
theorem clo_any (a b:Int) (p q:Bool) (s1 s2:Option Addr) (l1 c1 l2 c2:Nat) (w:World):Calls Tryz.prog 151 #[.agg #[.int .i64 a,.bool p,.slice s1 l1 c1],.agg #[.int .i64 b,.bool q,.slice s2 l2 c2]] w fun e w'=>e=.returned (.int .i64 (cmpV a b))∧Below w.heap.size w w':=by
 have hc:=comp_any
 go_enter Tryz.func151,Tryz.ntmps151
 go_wp2_with (go_at_call 152;refine(hc _ _ _).mono ?_;rintro e w1 ⟨rfl,rfl⟩)
 go_ret
 exact⟨rfl,by repeat first | exact Below.refl _ _ | refine Below.alloc ?_ (by simp) _⟩
end Go.Proofs.YtceoibfliggalaaGreatDoor
namespace Go.Proofs.YtceoibfliggalaaGreatDoor
structure Grp (D:List Ev) (bs:List (List Ev)):Prop where
 perm:bs.flatten.Perm D
 srt:∀b∈bs,SrtE b
 acr:bs.Pairwise AcrE
theorem AcrE.app {a b c:List Ev}:AcrE (a++b) c↔AcrE a c∧AcrE b c:=
 ⟨fun h=>⟨fun x hx=>h x (List.mem_append_left _ hx),fun x hx=>h x (List.mem_append_right _ hx)⟩,fun h x hx=>(List.mem_append.1 hx).elim (h.1 x) (h.2 x)⟩
theorem AcrE.app' {a b c:List Ev}:AcrE a (b++c)↔AcrE a b∧AcrE a c:=
 ⟨fun h=>⟨fun x hx y hy=>h x hx y (List.mem_append_left _ hy),fun x hx y hy=>h x hx y (List.mem_append_right _ hy)⟩,fun h x hx y hy=>(List.mem_append.1 hy).elim (h.1 x hx y) (h.2 x hx y)⟩
theorem Grp.merge {D C f g:List Ev} {X Y:List (List Ev)} (h:Grp D (X++f::g::Y)) (p:C.Perm (f++g)) (s:SrtE C):Grp D (X++C::Y):=by
 obtain⟨h1,h2,h3⟩:=h
 refine⟨?_,?_,?_⟩
 ·refine List.Perm.trans ?_ h1
  simp only [List.flatten_append,List.flatten_cons]
  refine List.Perm.append_left _ ?_
  rw [← List.append_assoc]
  exact List.Perm.append_right _ p
 ·intro b hb
  rcases List.mem_append.1 hb with hb | hb
  ·exact h2 b (List.mem_append_left _ hb)
  ·rcases List.mem_cons.1 hb with rfl | hb
   ·exact s
   ·exact h2 b (by simp [hb])
 ·rw [List.pairwise_append]at h3 ⊢
  obtain⟨a1,a2,a3⟩:=h3
  rw [List.pairwise_cons,List.pairwise_cons]at a2
  obtain⟨c1,c2,c3⟩:=a2
  refine⟨a1,List.pairwise_cons.2 ⟨fun y hy=>?_,c3⟩,fun x hx y hy=>?_⟩
  ·exact (AcrE.app.2 ⟨c1 y (by simp [hy]),c2 y hy⟩).perm p (List.Perm.refl _)
  ·rcases List.mem_cons.1 hy with rfl | hy
   ·exact (AcrE.app'.2 ⟨a3 x hx f (by simp),a3 x hx g (by simp)⟩).perm (List.Perm.refl _) p
   ·exact a3 x hx y (by simp [hy])
theorem acr_nil (a:List Ev):AcrE a []:=fun _ _ _ h=>by cases h
theorem Grp.more {D:List Ev} {bs:List (List Ev)} (h:Grp D bs):Grp D (bs++ [[]]):=by
 obtain⟨h1,h2,h3⟩:=h
 refine⟨by simpa using h1,?_,List.pairwise_append.2 ⟨h3,List.pairwise_singleton _ _,fun x _ y hy=>?_⟩⟩
 ·intro b hb
  rcases List.mem_append.1 hb with hb | hb
  ·exact h2 b hb
  ·simp at hb;subst hb;exact SrtE.nil
 ·simp at hy;subst hy;exact acr_nil x
theorem Grp.less {D:List Ev} {bs:List (List Ev)} (h:Grp D (bs++ [[]])):Grp D bs:=by
 obtain⟨h1,h2,h3⟩:=h
 exact⟨by simpa using h1,fun b hb=>h2 b (List.mem_append_left _ hb),(List.pairwise_append.1 h3).1⟩
structure Raw0 (D:List Ev) (bs:List (List Ev)) (rest:List Ev):Prop where
 perm:(bs.flatten++rest).Perm D
 srt:∀b∈bs,SrtE b
 acr:bs.Pairwise AcrE
 acr2:∀b∈bs,AcrE b rest
 ord:rest.Pairwise Ev.O
theorem Raw0.start {D:List Ev} (h:D.Pairwise Ev.O):Raw0 D [] D:=⟨by simp,by simp,List.Pairwise.nil,by simp,h⟩
theorem Raw0.step {D X C rest:List Ev} {bs:List (List Ev)} (h:Raw0 D bs (X++rest)) (p:C.Perm X) (s:SrtE C):Raw0 D (bs++ [C]) rest:=by
 obtain⟨h1,h2,h3,h4,h5⟩:=h
 obtain⟨o1,o2,o3⟩:=List.pairwise_append.1 h5
 refine⟨?_,?_,List.pairwise_append.2 ⟨h3,List.pairwise_singleton _ _,fun x hx y hy=>?_⟩,?_,o2⟩
 ·refine List.Perm.trans ?_ h1
  simp only [List.flatten_append,List.flatten_cons,List.flatten_nil,List.append_nil,List.append_assoc]
  exact List.Perm.append_left _ (List.Perm.append_right _ p)
 ·intro b hb
  rcases List.mem_append.1 hb with hb | hb
  ·exact h2 b hb
  ·simp at hb;subst hb;exact s
 ·simp at hy;subst hy
  exact(AcrE.app'.1 (h4 x hx)).1.perm (List.Perm.refl _) p
 ·intro b hb
  rcases List.mem_append.1 hb with hb | hb
  ·exact (AcrE.app'.1 (h4 b hb)).2
  ·simp at hb;subst hb
   exact fun x hx y hy=>o3 x (p.mem_iff.1 hx) y hy
theorem Raw0.done {D:List Ev} {bs:List (List Ev)} (h:Raw0 D bs []):Grp D bs:=⟨by simpa using h.perm,h.srt,h.acr⟩
def Full (s:Nat) (fs:List (List Ev)) (l:List Ev):Prop:=(∀f∈fs,f.length=s)∧l.length≤s
theorem full_len {s:Nat}:∀ {fs:List (List Ev)},(∀f∈fs,f.length=s)→fs.flatten.length=fs.length*s
 | [],_=>by simp
 | f::fs,h=>by
  rw [List.flatten_cons,List.length_append,h f (by simp),full_len (fun g hg=>h g (by simp [hg])),List.length_cons,Nat.succ_mul];omega
theorem grp_one {D:List Ev} {s:Nat} {fs:List (List Ev)} {l:List Ev} (h:Grp D (fs++ [l])) (hf:Full s fs l) (hs:0<s) (hn:D.length≤s):SrtE (fs++ [l]).flatten:=by
 have hl:=h.perm.length_eq
 rw [List.flatten_append,List.length_append,full_len hf.1]at hl
 simp only [List.flatten_cons,List.flatten_nil,List.append_nil]at hl
 rcases fs with _ | ⟨f,_ | ⟨g,fs⟩⟩
 ·simpa using h.srt l (by simp)
 ·have:l.length=0:=by simp only [List.length_cons,List.length_nil,Nat.zero_add,Nat.one_mul]at hl;omega
  have:=List.eq_nil_of_length_eq_zero this
  subst this
  simpa using h.srt f (by simp)
 ·exfalso
  have:2*s≤(f::g::fs).length*s:=Nat.mul_le_mul_right s (by simp)
  omega
theorem flat_len2 {s:Nat} {fs:List (List Ev)} {l:List Ev} (hf:Full s fs l):(fs++ [l]).flatten.length=fs.length*s+l.length:=by
 rw [List.flatten_append,List.length_append,full_len hf.1]
 simp only [List.flatten_cons,List.flatten_nil,List.append_nil]
theorem grp_len {D:List Ev} {s:Nat} {X fs:List (List Ev)} {l:List Ev} (h:Grp D (X++(fs++ [l]))) (hf:Full s fs l):X.flatten.length+(fs.length*s+l.length)=D.length:=by
 have:=h.perm.length_eq
 rw [List.flatten_append,List.length_append,flat_len2 hf]at this
 exact this
theorem two_blocks {D:List Ev} {s:Nat} {X fs:List (List Ev)} {l:List Ev} (h:Grp D (X++(fs++ [l]))) (hf:Full s fs l) (hs:0<s) (hN:X.flatten.length+2*s≤D.length):
  ∃f g Q,(X++(fs++ [l])).flatten=X.flatten++(f++(g++Q))∧f.length=s∧g.length=s∧SrtE f∧SrtE g∧AcrE f g∧∀C,C.Perm (f++g)→SrtE C→∃fs2 l2,Grp D ((X++ [C])++(fs2++ [l2]))∧Full s fs2 l2∧((X++ [C])++(fs2++ [l2])).flatten=X.flatten++(C++Q):=by
 have hl:=grp_len h hf
 rcases fs with _ | ⟨f,_ | ⟨g,fs⟩⟩
 ·have:=hf.2
  simp only [List.length_nil,Nat.zero_mul]at hl
  omega
 ·have h2:=hf.2
  simp only [List.length_cons,List.length_nil,Nat.zero_add,Nat.one_mul]at hl
  refine⟨f,l,[],by simp,hf.1 f (by simp),by omega,h.srt f (by simp),h.srt l (by simp),?_,fun C p sC=>⟨[],[],?_,⟨by simp,by simp⟩,by simp⟩⟩
  ·have:=(List.pairwise_append.1 h.acr).2.1
   simp only [List.cons_append,List.nil_append,List.pairwise_cons]at this
   exact this.1 l (by simp)
  ·have:=(Grp.merge (X:=X) (f:=f) (g:=l) (Y:= []) (by simpa using h) p sC).more
   simpa using this
 ·refine ⟨f,g,(fs++ [l]).flatten,by simp,hf.1 f (by simp),hf.1 g (by simp),h.srt f (by simp),h.srt g (by simp),?_,fun C p sC=>⟨fs,l,?_,⟨fun k hk=>hf.1 k (by simp [hk]),hf.2⟩,by simp⟩⟩
  ·have:=(List.pairwise_append.1 h.acr).2.1
   simp only [List.cons_append,List.pairwise_cons]at this
   exact this.1 g (by simp)
  ·have:=Grp.merge (X:=X) (f:=f) (g:=g) (Y:=fs++ [l]) (by simpa using h) p sC
   simpa using this
theorem last_two' {D:List Ev} {s:Nat} {X fs:List (List Ev)} {l:List Ev} (h:Grp D (X++(fs++ [l]))) (hf:Full s fs l) (hX:∀f∈X,f.length=2*s) (hN:D.length<X.flatten.length+2*s) (hM:X.flatten.length+s<D.length):
  ∃f g,(X++(fs++ [l])).flatten=X.flatten++(f++g)∧f.length=s∧0<g.length∧SrtE f∧SrtE g∧AcrE f g∧∀C,C.Perm (f++g)→SrtE C→Grp D (X++ [C])∧Full (2*s) X C:=by
 have hl:=grp_len h hf
 rcases fs with _ | ⟨f,_ | ⟨g,fs⟩⟩
 ·have:=hf.2
  simp only [List.length_nil,Nat.zero_mul]at hl
  omega
 ·simp only [List.length_cons,List.length_nil,Nat.zero_add,Nat.one_mul]at hl
  refine⟨f,l,by simp,hf.1 f (by simp),by omega,h.srt f (by simp),h.srt l (by simp),?_,fun C p sC=>⟨?_,hX,?_⟩⟩
  ·have:=(List.pairwise_append.1 h.acr).2.1
   simp only [List.cons_append,List.nil_append,List.pairwise_cons]at this
   exact this.1 l (by simp)
  ·exact Grp.merge (X:=X) (f:=f) (g:=l) (Y:= []) (by simpa using h) p sC
  ·have:=p.length_eq
   rw [List.length_append,hf.1 f (by simp)]at this
   have:=hf.2
   omega
 ·exfalso
  have:2*s≤(f::g::fs).length*s:=Nat.mul_le_mul_right s (by simp)
  omega
theorem last_one' {D:List Ev} {s:Nat} {X fs:List (List Ev)} {l:List Ev} (h:Grp D (X++(fs++ [l]))) (hf:Full s fs l) (hs:0<s) (hX:∀f∈X,f.length=2*s) (hM:D.length≤X.flatten.length+s):
  ∃C,Grp D (X++ [C])∧Full (2*s) X C∧(X++ [C]).flatten=(X++(fs++ [l])).flatten:=by
 have hl:=grp_len h hf
 rcases fs with _ | ⟨f,_ | ⟨g,fs⟩⟩
 ·exact ⟨l,by simpa using h,⟨hX,by have:=hf.2;omega⟩,by simp⟩
 ·simp only [List.length_cons,List.length_nil,Nat.zero_add,Nat.one_mul]at hl
  have:l.length=0:=by omega
  have e:=List.eq_nil_of_length_eq_zero this
  subst e
  refine⟨f,?_,⟨hX,by rw [hf.1 f (by simp)];omega⟩,by simp⟩
  exact Grp.less (bs:=X++ [f]) (by simpa using h)
 ·exfalso
  have:2*s≤(f::g::fs).length*s:=Nat.mul_le_mul_right s (by simp)
  omega
end Go.Proofs.YtceoibfliggalaaGreatDoor

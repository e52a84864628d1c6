/-
  TEXTS: TrM, RfX.
-/
import Derived.Test.YtceoibfliggalaaGreatDoorChecked
import Derived.KernelRfl
import Derived.RowKit
import Derived.WalkKit
import Derived.WalkSpells
import Derived.WalkLawsBesides
import Derived.Deep.LoopGhost
import Derived.Deep.RegionHeld3
import Derived.Deep.QuietTactic
import Derived.BigQuiet
import Derived.RowKit3
import Derived.Lib.Strings
import Derived.Deep.CutBlock
import Derived.Deep.DeepCutAuto
import Derived.Maps.AppendAt
import Derived.Laws.Rows
import Derived.Laws.AppendOwnNone
namespace Go.Proofs.YtceoibfliggalaaGreatDoor.Tr
structure Ac where
 nm:ByteArray
 pa:Int
 sh:Int
 cl:Bool
 us:Int
def rootName:ByteArray:=⟨#[114,111,111,116]⟩
def rootAc:Ac:=⟨rootName, -1,1,false,0⟩
def okByte (c:UInt8):Bool:=(decide (97≤c.toNat)&&decide (c.toNat≤122))||(decide (65≤c.toNat)&&decide (c.toNat≤90))||(decide (48≤c.toNat)&&decide (c.toNat≤57))||c.toNat==45||c.toNat==95
def okName (s:ByteArray):Bool:=decide (1≤s.size)&&decide (s.size≤32)&&s.data.toList.all okByte
def okSh (n:Int):Bool:=decide (1≤n)&&decide (n≤4096)
def findV:List Ac→ByteArray→Option Nat
 | [],_=>none
 | a::l,s=>if a.nm=s then some 0 else(findV l s).map (· +1)
theorem find_some {l:List Ac} {s:ByteArray}:∀ {k},findV l s=some k→(∃a,l[k]?=some a∧a.nm=s)∧∀(j:Nat) (b:Ac),j<k→l[j]?=some b→b.nm≠s:=by
 induction l with
 | nil=>intro k h;cases h
 | cons a l ih=>
  intro k h
  simp only [findV]at h
  by_cases e:a.nm=s
  ·rw [if_pos e]at h
   injection h with h
   subst h
   exact⟨⟨a,rfl,e⟩,fun j b hj=>by omega⟩
  ·rw [if_neg e]at h
   cases hf:findV l s with
   | none=>rw [hf]at h;cases h
   | some m=>
    rw [hf]at h
    simp at h
    subst h
    obtain⟨⟨b,hb,hbs⟩,hn⟩:=ih hf
    refine⟨⟨b,by simpa using hb,hbs⟩,fun j c hj hc=>?_⟩
    cases j with
    | zero=>simp at hc;subst hc;exact e
    | succ j=>exact hn j c (by omega) (by simpa using hc)
def up (l:List Ac) (n:Nat):Nat:=match l[n]? with
 | some a=>a.pa.toNat
 | none=>0
def Dep (l:List Ac):Nat→Nat→Prop
 | 0,n=>n=0
 | d+1,n=>n≠0∧Dep l d (up l n)
theorem dep_uniq {l:List Ac}:∀ {d e n},Dep l d n→Dep l e n→d=e
 | 0,0,_,_,_=>rfl
 | 0,_+1,_,h,h'=>absurd h h'.1
 | _+1,0,_,h,h'=>absurd h' h.1
 | d+1,e+1,_,h,h'=>by rw [dep_uniq h.2 h'.2]
def depN (l:List Ac):Nat→Nat→Option Nat
 | 0,_=>none
 | f+1,n=>if n=0 then some 0 else(depN l f (up l n)).map (· +1)
theorem depN_dep {l:List Ac}:∀ {f n d},depN l f n=some d→Dep l d n∧d<f
 | 0,_,_,h=>by cases h
 | f+1,n,d,h=>by
  simp only [depN]at h
  by_cases e:n=0
  ·rw [if_pos e]at h
   injection h with h
   subst h
   exact⟨e,by omega⟩
  ·rw [if_neg e]at h
   cases hd:depN l f (up l n)with
   | none=>rw [hd]at h;cases h
   | some m=>
    rw [hd]at h
    simp at h
    subst h
    obtain⟨h1,h2⟩:=depN_dep hd
    exact⟨⟨e,h1⟩,by omega⟩
theorem dep_depN {l:List Ac}:∀ {f n d},Dep l d n→d<f→depN l f n=some d
 | 0,_,_,_,h=>by omega
 | f+1,n,0,h,_=>by
  have:n=0:=h
  simp [depN,this]
 | f+1,n,d+1,h,hf=>by
  simp only [depN]
  rw [if_neg h.1,dep_depN h.2 (by omega)]
  rfl
def depthV (l:List Ac) (n:Nat):Option Nat:=depN l (l.length+1) n
def kidsV (l:List Ac) (n:Nat):List Nat:=(List.range l.length).filter fun i=>decide ((l[i]?.map (·.pa))=some (n:Int))
structure Wf (l:List Ac):Prop where
 root:l[0]?=some rootAc
 len:l.length≤64
 row:∀(i:Nat) (a:Ac),l[i]?=some a→0<i→okName a.nm=true∧0≤a.pa∧a.pa<(l.length:Int)∧okSh a.sh=true∧a.us=0
 uniq:∀(i j:Nat) (a b:Ac),l[i]?=some a→l[j]?=some b→a.nm=b.nm→i=j
 deep:∀i,i<l.length→∃d,d≤4∧Dep l d i
theorem dep_same {l l':List Ac}:∀ {d n},Dep l d n→(∀k,k≠0→up l' k=up l k)→Dep l' d n
 | 0,_,h,_=>h
 | d+1,n,h,hu=>⟨h.1,by rw [hu n h.1];exact dep_same h.2 hu⟩
theorem up_of {l:List Ac} {n:Nat} {a:Ac} (h:l[n]?=some a):up l n=a.pa.toNat:=by unfold up;rw [h]
theorem Wf.pos {l:List Ac} (h:Wf l):0<l.length:=(List.getElem?_eq_some_iff.1 h.root).1
def mvV (l:List Ac) (n:Nat) (p:Int):List Ac:=match l[n]? with
 | some a=>l.set n {a with pa:=p}
 | none=>l
section
variable {l:List Ac} {n:Nat} {p:Nat} {a:Ac}
theorem mv_len (p:Int):(mvV l n p).length=l.length:=by unfold mvV;split<;>simp
theorem mv_at (ha:l[n]?=some a) (p:Int):(mvV l n p)[n]?=some {a with pa:=p}:=by
 unfold mvV
 rw [ha]
 exact List.getElem?_set_self (List.getElem?_eq_some_iff.1 ha).1
theorem mv_other {k:Nat} (p:Int) (hk:k≠n):(mvV l n p)[k]?=l[k]?:=by
 unfold mvV
 split
 ·exact List.getElem?_set_ne (fun e=>hk e.symm)
 ·rfl
theorem mv_self (ha:l[n]?=some a):mvV l n a.pa=l:=by
 apply List.ext_getElem?
 intro k
 by_cases hk:k=n
 ·subst hk
  rw [mv_at ha,ha]
 ·exact mv_other _ hk
end
def addV (l:List Ac) (nm pn:ByteArray) (sh:Int):Int×Int×List Ac:=
 if okName nm=false then(0,60,l)
 else if (findV l nm).isSome then(0,61,l)
 else match findV l pn with
  | none=>(0,62,l)
  | some p=>if okSh sh=false then(0,63,l)else if 4≤(depthV l p).getD 0 then(0,64,l)else if 64≤l.length then(0,65,l)else(l.length,0,l++ [⟨nm,p,sh,false,0⟩])
theorem inj_bound:∀(n d:Nat) (g:Nat→Nat),(∀e,e≤d→g e<n)→(∀e e',e≤d→e'≤d→g e=g e'→e=e')→d<n
 | 0,_,g,h,_=>absurd (h 0 (Nat.zero_le _)) (by omega)
 | n+1,0,_,_,_=>by omega
 | n+1,d+1,g,h,hi=>by
  have:=inj_bound n d (fun e=>if g e=n then g (d+1)else g e) (fun e he=>by
   have h1:=h e (by omega)
   have h2:=h (d+1) (Nat.le_refl _)
   have h3:g (d+1)=g e→d+1=e:=hi (d+1) e (Nat.le_refl _) (by omega)
   split<;>omega) (fun e e' he he' heq=>by
   have h1:g (d+1)=g e→d+1=e:=hi (d+1) e (Nat.le_refl _) (by omega)
   have h2:g (d+1)=g e'→d+1=e':=hi (d+1) e' (Nat.le_refl _) (by omega)
   by_cases a:g e=n
   ·by_cases b:g e'=n
    ·exact hi e e' (by omega) (by omega) (by omega)
    ·rw [if_pos a,if_neg b]at heq
     have:=h2 heq
     omega
   ·by_cases b:g e'=n
    ·rw [if_neg a,if_pos b]at heq
     have:=h1 heq.symm
     omega
    ·rw [if_neg a,if_neg b]at heq
     exact hi e e' (by omega) (by omega) heq)
  omega
def itr (l:List Ac):Nat→Nat→Nat
 | 0,i=>i
 | k+1,i=>itr l k (up l i)
theorem itr_lt {l:List Ac} (h:∀k,k<l.length→up l k<l.length):∀ {k i},i<l.length→itr l k i<l.length
 | 0,_,hi=>hi
 | k+1,i,hi=>itr_lt (k:=k) h (h i hi)
theorem itr_dep {l:List Ac}:∀ {k d i},Dep l d i→k≤d→Dep l (d - k) (itr l k i)
 | 0,_,_,h,_=>h
 | k+1,0,_,_,hk=>by omega
 | k+1,d+1,i,h,hk=>by
  rw [show d+1 - (k+1)=d - k by omega]
  exact itr_dep h.2 (by omega)
theorem dep_lt {l:List Ac} (h:∀k,k<l.length→up l k<l.length) {d i:Nat} (hi:i<l.length) (hd:Dep l d i):d<l.length:=
 inj_bound l.length d (fun e=>itr l e i) (fun e _=>itr_lt h hi) (fun e e' he he' heq=>by
  have h1:=itr_dep hd he
  have h2:=itr_dep hd he'
  rw [heq]at h1
  have:=dep_uniq h1 h2
  omega)
section
variable {l:List Ac} {n q:Nat} {a b:Ac}
end
def rowE (l:List Ac) (i:Nat) (a:Ac):Int:=
 if okName a.nm=false then 60 else if findV l a.nm≠some i then 61 else if a.pa<0∨(l.length:Int)≤a.pa then 62 else if okSh a.sh=false then 63 else 0
def rowsE (l:List Ac):Nat→Nat→Int
 | 0,_=>0
 | f+1,i=>match l[i]? with
  | none=>0
  | some a=>if rowE l i a=0 then rowsE l f (i+1)else rowE l i a
def deepE (l:List Ac):Nat→Nat→Int
 | 0,_=>0
 | f+1,i=>if l.length≤i then 0 else match depthV l i with
  | none=>67
  | some d=>if 4<d then 64 else deepE l f (i+1)
def isRoot (a:Ac):Bool:=decide (a.nm=rootName)&&decide (a.pa= -1)&&decide (a.sh=1)&& !a.cl
def plainAc (a:Ac):Ac:={a with us:=0}
def loadE (l:List Ac):Int:=match l[0]? with
 | none=>66
 | some a=>if isRoot a=false then 66 else if 64<l.length then 65 else if rowsE l l.length 1≠0 then rowsE l l.length 1 else deepE l l.length 1
theorem rows_of {l:List Ac}:∀ {f i},rowsE l f i=0→∀(j:Nat) (a:Ac),i≤j→j<i+f→l[j]?=some a→rowE l j a=0
 | 0,i,_,j,a,h1,h2,_=>by omega
 | f+1,i,h,j,a,h1,h2,ha=>by
  simp only [rowsE]at h
  by_cases e:i=j
  ·subst e
   rw [ha]at h
   simp only at h
   by_cases e0:rowE l i a=0
   ·exact e0
   ·rw [if_neg e0]at h;exact absurd h e0
  ·cases hb:l[i]? with
   | none=>
    have:=List.getElem?_eq_none_iff.1 hb
    have:=(List.getElem?_eq_some_iff.1 ha).1
    omega
   | some b=>
    rw [hb]at h
    simp only at h
    by_cases e0:rowE l i b=0
    ·rw [if_pos e0]at h
     exact rows_of h j a (by omega) (by omega) ha
    ·rw [if_neg e0]at h;exact absurd h e0
theorem deep_of {l:List Ac}:∀ {f i},deepE l f i=0→∀j,i≤j→j<i+f→j<l.length→∃d,depthV l j=some d∧d≤4
 | 0,i,_,j,h1,h2,_=>by omega
 | f+1,i,h,j,h1,h2,hj=>by
  simp only [deepE]at h
  rw [if_neg (by omega)]at h
  cases hd:depthV l i with
  | none=>rw [hd]at h;simp at h
  | some d=>
   rw [hd]at h
   simp only at h
   by_cases e4:4<d
   ·rw [if_pos e4]at h;simp at h
   ·rw [if_neg e4]at h
    by_cases e:i=j
    ·subst e;exact⟨d,hd,by omega⟩
    ·exact deep_of h j (by omega) (by omega) hj
theorem wf_load {l:List Ac} (h:loadE l=0):Wf (l.map plainAc):=by
 unfold loadE at h
 cases h0:l[0]? with
 | none=>rw [h0]at h;simp at h
 | some r=>
  rw [h0]at h
  simp only at h
  by_cases c1:isRoot r=false
  ·rw [if_pos c1]at h;simp at h
  rw [if_neg c1]at h
  by_cases c2:64<l.length
  ·rw [if_pos c2]at h;simp at h
  rw [if_neg c2]at h
  by_cases c3:rowsE l l.length 1=0
  ·rw [if_neg (by simp [c3])]at h
   have hpos:0<l.length:=(List.getElem?_eq_some_iff.1 h0).1
   have hrow:∀(i:Nat) (a:Ac),0<i→l[i]?=some a→okName a.nm=true∧findV l a.nm=some i∧0≤a.pa∧a.pa<(l.length:Int)∧okSh a.sh=true:=fun i a hi ha=>by
    have hr:=rows_of c3 i a (by omega) (by have:=(List.getElem?_eq_some_iff.1 ha).1;omega) ha
    unfold rowE at hr
    by_cases d1:okName a.nm=false
    ·rw [if_pos d1]at hr;simp at hr
    rw [if_neg d1]at hr
    by_cases d2:findV l a.nm=some i
    ·rw [if_neg (by simp [d2])]at hr
     by_cases d3:a.pa<0∨(l.length:Int)≤a.pa
     ·rw [if_pos d3]at hr;simp at hr
     rw [if_neg d3]at hr
     by_cases d4:okSh a.sh=false
     ·rw [if_pos d4]at hr;simp at hr
     exact⟨by simpa using d1,d2,by omega,by omega,by simpa using d4⟩
    ·rw [if_pos d2]at hr;simp at hr
   have hdep:=fun i (hi:0<i) hil=>deep_of h i hi (by omega) hil
   have hup:∀k,up (l.map plainAc) k=up l k:=fun k=>by
    unfold up
    rw [List.getElem?_map]
    cases l[k]?<;>rfl
   have hDep:∀d n,Dep l d n→Dep (l.map plainAc) d n:=fun d n hd=>dep_same hd (fun k _=>hup k)
   simp [isRoot]at c1
   refine⟨?_,by simp;omega,fun i b hb hi=>?_,fun i j b c hb hc e=>?_,fun i hi=>?_⟩
   ·rw [List.getElem?_map,h0]
    obtain⟨nm,pa,sh,cl,us⟩:=r
    simp at c1
    obtain⟨rfl,rfl,rfl,rfl⟩:=c1
    rfl
   ·rw [List.getElem?_map]at hb
    cases ha:l[i]? with
    | none=>rw [ha]at hb;simp at hb
    | some a=>
     rw [ha]at hb
     simp at hb
     subst hb
     obtain⟨g1,g2,g3,g4,g5⟩:=hrow i a hi ha
     refine⟨g1,g3,by simpa [plainAc]using g4,g5,rfl⟩
   ·rw [List.getElem?_map]at hb hc
    cases ha:l[i]? with
    | none=>rw [ha]at hb;simp at hb
    | some a=>
     cases hc':l[j]? with
     | none=>rw [hc']at hc;simp at hc
     | some a'=>
      rw [ha]at hb
      rw [hc']at hc
      simp at hb hc
      subst hb hc
      have e':a.nm=a'.nm:=e
      by_cases hi0:0<i
      ·by_cases hj0:0<j
       ·have g1:=(hrow i a hi0 ha).2.1
        have g2:=(hrow j a' hj0 hc').2.1
        rw [e',g2]at g1
        cases g1
        rfl
       ·obtain rfl:j=0:=by omega
        have g1:=(hrow i a hi0 ha).2.1
        obtain⟨_,g2⟩:=find_some g1
        exact absurd e'.symm (g2 0 a' hi0 hc')
      ·obtain rfl:i=0:=by omega
       by_cases hj0:0<j
       ·have g1:=(hrow j a' hj0 hc').2.1
        obtain⟨_,g2⟩:=find_some g1
        exact absurd e' (g2 0 a hj0 ha)
       ·omega
   ·simp at hi
    by_cases hi0:0<i
    ·obtain ⟨d,g1,g2⟩:=hdep i hi0 hi
     exact⟨d,g2,hDep _ _ (depN_dep g1).1⟩
    ·obtain rfl:i=0:=by omega
     exact⟨0,by omega,rfl⟩
  ·rw [if_pos c3]at h
   exact absurd h c3
section
variable {l:List Ac}
theorem mem_kids {n k:Nat}:k∈kidsV l n↔∃a,l[k]?=some a∧a.pa=n:=by
 unfold kidsV
 rw [List.mem_filter,List.mem_range]
 refine⟨fun ⟨h1,h2⟩=>?_,fun⟨a,h1,h2⟩=>⟨(List.getElem?_eq_some_iff.1 h1).1,by simp [h1,h2]⟩⟩
 obtain⟨a,ha⟩:∃a,l[k]?=some a:=⟨_,List.getElem?_eq_getElem h1⟩
 rw [ha]at h2
 exact⟨a,ha,by simpa using h2⟩
end
end Go.Proofs.YtceoibfliggalaaGreatDoor.Tr
namespace Go.Proofs.YtceoibfliggalaaGreatDoor
open Go.RowKit Tr
theorem ba_eq {a b:ByteArray} (h:a=b):(a.toList==b.toList)=true:=by rw [h];simp
theorem ba_ne {a b:ByteArray} (h:a≠b):(a.toList==b.toList)=false:=by
 rw [Lib.toList_data,Lib.toList_data]
 simp only [beq_eq_false_iff_ne,ne_eq]
 intro e
 cases a with
 | mk x=>
  cases b with
  | mk y=>
   have:=Array.toList_inj.1 e
   simp only at this
   exact h (by rw [this])
structure AcAt (W:World) (g o:Nat) (a:Ac):Prop where
 nm:W.cell? ⟨g,o,none⟩=some (.string a.nm)
 pa:W.cell? ⟨g,o+1,none⟩=some (.int .i64 a.pa)
 sh:W.cell? ⟨g,o+2,none⟩=some (.int .i64 a.sh)
 cl:W.cell? ⟨g,o+3,none⟩=some (.bool a.cl)
 us:W.cell? ⟨g,o+4,none⟩=some (.int .u64 a.us)
theorem cellB {w w':World} (b:Below w.heap.size w w') {a:Addr} {v:Value} (h:w.cell? a=some v):w'.cell? a=some v:=(b.cell (World.block_lt_of_cell? w _ h)).trans h
theorem AcAt.below {W W':World} {g o:Nat} {a:Ac} (h:AcAt W g o a) (b:Below W.heap.size W W'):AcAt W' g o a:=⟨cellB b h.nm,cellB b h.pa,cellB b h.sh,cellB b h.cl,cellB b h.us⟩
def AcsAt (W:World) (ao:Option Addr) (l:List Ac):Prop:=∃g o,(0<l.length→ao=some ⟨g,o,none⟩)∧∀k a,l[k]?=some a→AcAt W g (o+k*5) a
set_option maxRecDepth 20000 in
theorem AcsAt.below {W W':World} {ao:Option Addr} {l:List Ac} (h:AcsAt W ao l) (b:Below W.heap.size W W'):AcsAt W' ao l:=by
 obtain⟨g,o,h1,h2⟩:=h
 exact⟨g,o,h1,fun k a ha=>(h2 k a ha).below b⟩
def findI:Option Nat→Int
 | none=> -1
 | some k=>k
set_option maxRecDepth 20000 in
theorem find_drop {l:List Ac} {s:ByteArray} {j:Nat} {a:Ac} (h:l[j]?=some a):findV (l.drop j) s=if a.nm=s then some 0 else(findV (l.drop (j+1)) s).map (· +1):=by
 obtain⟨hj,rfl⟩:=List.getElem?_eq_some_iff.1 h
 rw [List.drop_eq_getElem_cons hj]
 rfl
set_option maxRecDepth 20000 in
set_option maxHeartbeats 1000000 in
theorem find_any {w:World} {ao:Option Addr} {l:List Ac} {c:Nat} (hA:AcsAt w ao l) (hn:l.length*48≤140737488355328) (s:ByteArray):
  Calls Tryz.prog 127 #[.slice ao l.length c,.string s] w fun e w'=>e=.returned (.int .i64 (findI (findV l s)))∧Below w.heap.size w w':=by
 obtain⟨q,hq⟩:∃q,l.length=q:=⟨_,rfl⟩
 obtain⟨g,o,hg,hc⟩:=hA
 rw [hq]at hg hn ⊢
 go_enter Tryz.func127,Tryz.ntmps127
 go_wp2
 go_loopg [9] q (fun gk p wr=>∃j:Nat,j+gk=q∧p=.int .i64 j∧Below w.heap.size w wr∧findV l s=(findV (l.drop j) s).map (· +j))
 case atStart=>exact⟨0,by omega,rfl,Below.refl _ _,by simp⟩
 case round=>
  obtain⟨j,hj,rfl,hb,hinv⟩:=hrel
  by_cases hlt:j<q
  ·obtain ⟨a,ha⟩:∃a,l[j]?=some a:=⟨_,List.getElem?_eq_getElem (by omega)⟩
   obtain rfl:=hg (by omega)
   obtain⟨d0,d1,d2,d3,d4⟩:=(hc j a ha).below hb
   rw [find_drop ha]at hinv
   clear hc hg ha
   have hz:=hb.size
   by_cases e:a.nm=s
   ·rw [if_pos e]at hinv
    have HE:Hid (findV l s=some j):=show findV l s=some j by simpa using hinv
    have HB:Hid _:=hb
    have eb:=ba_eq e
    clear hinv hb e
    go_wp2
    go_ret
    exact⟨by rw [HE.out];rfl,HB.out.alloc hz _⟩
   ·rw [if_neg e]at hinv
    have HE:Hid (findV l s=(findV (l.drop (j+1)) s).map (· +(j+1))):=show findV l s=(findV (l.drop (j+1)) s).map (· +(j+1)) by
     rw [hinv]
     cases findV (l.drop (j+1)) s with
     | none=>rfl
     | some k=>simp;omega
    have HB:Hid _:=hb
    have eb:=ba_ne e
    clear hinv hb e
    go_wp2
    go_roundg (q - (j+1))
    case measure=>omega
    case rel=>exact⟨j+1,by omega,rfl,HB.out.alloc hz _,HE.out⟩
  ·obtain rfl:j=q:=by omega
   have e:Hid (findV l s=none):=show findV l s=none by rw [hinv,List.drop_of_length_le (by omega)];rfl
   clear hinv
   go_wp2
   go_ret
   exact⟨by rw [e.out];rfl,hb⟩
end Go.Proofs.YtceoibfliggalaaGreatDoor
namespace Go.Proofs.YtceoibfliggalaaGreatDoor
open Go.RowKit Tr
def PaOk (l:List Ac):Prop:=∀(k:Nat) (a:Ac),l[k]?=some a→0<k→0≤a.pa∧a.pa<(l.length:Int)
set_option maxRecDepth 20000 in
set_option maxHeartbeats 1000000 in
theorem depth_any {w:World} {ao:Option Addr} {l:List Ac} {c:Nat} (hA:AcsAt w ao l) (hn:l.length*48≤140737488355328) (hp:PaOk l) {n:Nat} (hnl:n<l.length):
  Calls Tryz.prog 82 #[.slice ao l.length c,.int .i64 n] w fun e w'=>e=.returned (.int .i64 (findI (depthV l n)))∧Below w.heap.size w w':=by
 obtain⟨q,hq⟩:∃q,l.length=q:=⟨_,rfl⟩
 obtain⟨g,o,hg,hc⟩:=hA
 unfold depthV
 rw [hq]at hg hn hnl ⊢
 obtain rfl:=hg (by omega)
 go_enter Tryz.func82,Tryz.ntmps82
 go_wp2
 go_loopg [1,5] (q+1) (fun gk pn p wr=>∃(j m:Nat),j+gk=q+1∧p=.int .i64 j∧pn=.int .i64 m∧m<q∧w=wr∧depN l (q+1) n=(depN l gk m).map (· +j))
 case atStart=>exact⟨0,n,by omega,rfl,rfl,hnl,rfl,by simp⟩
 case round=>
  obtain⟨j,m,hj,rfl,rfl,hm,rfl,hinv⟩:=hrel
  by_cases hlt:j≤q
  ·have hlt':(j:Int)≤q:=by omega
   obtain⟨f,rfl⟩:∃f,gk=f+1:=⟨gk - 1,by omega⟩
   rw [show depN l (f+1) m=if m=0 then some 0 else(depN l f (up l m)).map (· +1)from rfl]at hinv
   by_cases e0:m=0
   ·subst e0
    simp at hinv
    have HE:Hid _:=hinv
    clear hinv hc
    go_wp2
    go_ret
    exact⟨by rw [HE.out];rfl,Below.refl _ _⟩
   ·rw [if_neg e0]at hinv
    obtain⟨a,ha⟩:∃a,l[m]?=some a:=⟨_,List.getElem?_eq_getElem (by omega)⟩
    obtain⟨p0,p1⟩:=hp m a ha (by omega)
    obtain⟨pn,hpn⟩:∃pn:Nat,a.pa=pn:=⟨a.pa.toNat,by omega⟩
    have hup:up l m=pn:=by rw [up_of ha,hpn];simp
    rw [hup]at hinv
    have d1:=(hc m a ha).pa
    rw [hpn]at d1 p1
    rw [hq]at p1
    have HE:Hid (depN l (q+1) n=(depN l f pn).map (· +(j+1))):=show depN l (q+1) n=(depN l f pn).map (· +(j+1)) by
     rw [hinv]
     cases depN l f pn with
     | none=>rfl
     | some k=>simp;omega
    have e0':¬(m:Int)=0:=by omega
    have hm':(m:Int)<q:=by omega
    clear hinv hc ha hpn hup
    go_wp2
    go_roundg f
    case measure=>omega
    case rel=>exact⟨j+1,pn,by omega,rfl,rfl,by omega,rfl,HE.out⟩
  ·have hlt':¬(j:Int)≤q:=by omega
   obtain rfl:gk=0:=by omega
   have HE:Hid (depN l (q+1) n=none):=show depN l (q+1) n=none by rw [hinv];rfl
   clear hinv hc
   go_wp2
   go_ret
   exact⟨by rw [HE.out];rfl,Below.refl _ _⟩
set_option maxRecDepth 20000 in
theorem cells_at {w:World} {b k:Nat} {cs:Array Value} {e:TypeId} {f:Nat×Nat} {v:Value} (h:w.heap[b]?=some (.cells cs e f)) (hv:cs[k]?=some v):w.cell? ⟨b,k,none⟩=some v:=by
 unfold World.cell?
 rw [h]
 simpa using hv
end Go.Proofs.YtceoibfliggalaaGreatDoor
namespace Go.Proofs.YtceoibfliggalaaGreatDoor
open Go.RowKit Tr
set_option maxRecDepth 20000 in
theorem drop_all {s:ByteArray} {j:Nat} (h:j<s.size):(s.data.toList.drop j).all okByte=(okByte s[j]&&(s.data.toList.drop (j+1)).all okByte):=by
 have hj:j<s.data.toList.length:=by simpa using h
 rw [List.drop_eq_getElem_cons hj,List.all_cons]
 rfl
set_option maxRecDepth 20000 in
set_option maxHeartbeats 2000000 in
theorem name_any (s:ByteArray) (w:World):Calls Tryz.prog 126 #[.string s] w fun e w'=>e=.returned (.bool (okName s))∧Below w.heap.size w w':=by
 unfold okName
 by_cases h1:s.size<1
 ·have e:decide (1≤s.size)=false:=decide_eq_false (by omega)
  rw [e]
  go_enter Tryz.func126,Tryz.ntmps126
  go_wp2
  go_ret
  exact⟨rfl,Below.refl _ _⟩
 by_cases h2:32<s.size
 ·have e:decide (s.size≤32)=false:=decide_eq_false (by omega)
  rw [e]
  have h1':¬(s.size:Int)<1:=by omega
  go_enter Tryz.func126,Tryz.ntmps126
  go_wp2
  go_ret
  exact⟨by simp,Below.refl _ _⟩
 have e1:decide (1≤s.size)=true:=decide_eq_true (by omega)
 have e2:decide (s.size≤32)=true:=decide_eq_true (by omega)
 rw [e1,e2,Bool.true_and,Bool.true_and]
 obtain⟨q,hq⟩:∃q,s.size=q:=⟨_,rfl⟩
 have h1':¬(s.size:Int)<1:=by omega
 have h2':¬(32:Int)<s.size:=by omega
 go_enter Tryz.func126,Tryz.ntmps126
 go_wp2
 go_loopg [15] q (fun gk p wr=>∃j:Nat,j+gk=q∧p=.int .i64 j∧w=wr∧s.data.toList.all okByte=(s.data.toList.drop j).all okByte)
 case atStart=>exact⟨0,by omega,rfl,rfl,by simp⟩
 case round=>
  obtain⟨j,hj,rfl,rfl,hinv⟩:=hrel
  by_cases hlt:j<q
  ·have hlt':(j:Int)<q:=by omega
   have hjs:j<s.size:=by omega
   rw [drop_all hjs]at hinv
   have HI:Hid _:=hinv
   clear hinv
   go_upto_region 7 with fail
   obtain⟨b,hb⟩:∃b,s[j].toNat=b:=⟨_,rfl⟩
   obtain⟨ob,hob⟩:∃ob,okByte s[j]=ob:=⟨_,rfl⟩
   have hbo:ob=((decide (97≤b)&&decide (b≤122))||(decide (65≤b)&&decide (b≤90))||(decide (48≤b)&&decide (b≤57))||b==45||b==95):=by rw [← hob,←hb];rfl
   rw [hb]
   rw [hob]at HI
   clear hb hob
   go_cut [51] (fun t wc=>t=.bool (!ob)∧w=wc)
   case first=>
    have hc:(97≤b∧b≤122)∨(122<b)∨(b=95)∨(91≤b∧b≤96∧b≠95)∨(65≤b∧b≤90)∨(58≤b∧b≤64)∨(48≤b∧b≤57)∨(b=45)∨(b<48∧b≠45):=by omega
    rcases hc with h | h | h | h | h | h | h | h | h
    ·have ok:ob=true:=by rw [hbo];simp;omega
     clear hbo
     subst ok
     have f0:(97:Int)≤b:=by omega
     have f1:(b:Int)≤122:=by omega
     clear h
     go_wp2
     go_meet
     first | exact⟨rfl,rfl⟩ | exact⟨by simp;omega,rfl⟩
    ·have ok:ob=false:=by rw [hbo];simp;omega
     clear hbo
     subst ok
     have f0:(97:Int)≤b:=by omega
     have f1:¬(b:Int)≤122:=by omega
     have f2:(65:Int)≤b:=by omega
     have f3:¬(b:Int)≤90:=by omega
     have f4:(48:Int)≤b:=by omega
     have f5:¬(b:Int)≤57:=by omega
     have f6:¬(b:Int)=45:=by omega
     have f7:¬(b:Int)=95:=by omega
     clear h
     go_wp2
     go_meet
     first | exact⟨rfl,rfl⟩ | exact⟨by simp;omega,rfl⟩
    ·have ok:ob=true:=by rw [hbo,h];rfl
     clear hbo
     subst ok
     subst h
     go_wp2
     go_meet
     first | exact⟨rfl,rfl⟩ | exact⟨by simp;omega,rfl⟩
    ·have ok:ob=false:=by rw [hbo];simp;omega
     clear hbo
     subst ok
     have f0:¬(97:Int)≤b:=by omega
     have f1:(65:Int)≤b:=by omega
     have f2:¬(b:Int)≤90:=by omega
     have f3:(48:Int)≤b:=by omega
     have f4:¬(b:Int)≤57:=by omega
     have f5:¬(b:Int)=45:=by omega
     have f6:¬(b:Int)=95:=by omega
     clear h
     go_wp2
     go_meet
     first | exact⟨rfl,rfl⟩ | exact⟨by simp;omega,rfl⟩
    ·have ok:ob=true:=by rw [hbo];simp;omega
     clear hbo
     subst ok
     have f0:¬(97:Int)≤b:=by omega
     have f1:(65:Int)≤b:=by omega
     have f2:(b:Int)≤90:=by omega
     clear h
     go_wp2
     go_meet
     first | exact⟨rfl,rfl⟩ | exact⟨by simp;omega,rfl⟩
    ·have ok:ob=false:=by rw [hbo];simp;omega
     clear hbo
     subst ok
     have f0:¬(97:Int)≤b:=by omega
     have f1:¬(65:Int)≤b:=by omega
     have f2:(48:Int)≤b:=by omega
     have f3:¬(b:Int)≤57:=by omega
     have f4:¬(b:Int)=45:=by omega
     have f5:¬(b:Int)=95:=by omega
     clear h
     go_wp2
     go_meet
     first | exact⟨rfl,rfl⟩ | exact⟨by simp;omega,rfl⟩
    ·have ok:ob=true:=by rw [hbo];simp;omega
     clear hbo
     subst ok
     have f0:¬(97:Int)≤b:=by omega
     have f1:¬(65:Int)≤b:=by omega
     have f2:(48:Int)≤b:=by omega
     have f3:(b:Int)≤57:=by omega
     clear h
     go_wp2
     go_meet
     first | exact⟨rfl,rfl⟩ | exact⟨by simp;omega,rfl⟩
    ·have ok:ob=true:=by rw [hbo,h];rfl
     clear hbo
     subst ok
     subst h
     go_wp2
     go_meet
     first | exact⟨rfl,rfl⟩ | exact⟨by simp;omega,rfl⟩
    ·have ok:ob=false:=by rw [hbo];simp;omega
     clear hbo
     subst ok
     have f0:¬(97:Int)≤b:=by omega
     have f1:¬(65:Int)≤b:=by omega
     have f2:¬(48:Int)≤b:=by omega
     have f3:¬(b:Int)=45:=by omega
     have f4:¬(b:Int)=95:=by omega
     clear h
     go_wp2
     go_meet
     first | exact⟨rfl,rfl⟩ | exact⟨by simp;omega,rfl⟩
   case rest=>
    obtain⟨rfl,rfl⟩:=hcut
    clear hbo
    cases ob with
    | true=>
     have HJ:Hid (s.data.toList.all okByte=(s.data.toList.drop (j+1)).all okByte):=show s.data.toList.all okByte=(s.data.toList.drop (j+1)).all okByte by rw [HI.out,Bool.true_and]
     clear HI
     go_wp2
     go_roundg (q - (j+1))
     case measure=>omega
     case rel=>exact⟨j+1,by omega,rfl,rfl,HJ.out⟩
    | false=>
     have HJ:Hid (s.data.toList.all okByte=false):=show s.data.toList.all okByte=false by rw [HI.out,Bool.false_and]
     clear HI
     go_wp2
     go_ret
     exact⟨by rw [HJ.out];rfl,Below.refl _ _⟩
  ·obtain rfl:j=q:=by omega
   have HI:Hid (s.data.toList.all okByte=true):=show s.data.toList.all okByte=true by
    rw [hinv,List.drop_of_length_le (by simp;exact Nat.le_of_eq hq)]
    rfl
   clear hinv
   go_wp2
   go_ret
   exact⟨by rw [HI.out];rfl,Below.refl _ _⟩
end Go.Proofs.YtceoibfliggalaaGreatDoor
namespace Go.Proofs.YtceoibfliggalaaGreatDoor
open Go.RowKit Tr
theorem frozen_at {w:World} {b k:Nat} {cs:Array Value} {e:TypeId} (h:w.heap[b]?=some (.cells cs e (0,0))):w.frozen? ⟨b,k,none⟩=false:=by
 unfold World.frozen?
 rw [h]
 simp
theorem cells5 {w:World} {b:Nat} {v0 v1 v2 v3 v4:Value} {e:TypeId} (h:w.heap[b]?=some (.cells #[v0,v1,v2,v3,v4] e (0,0))):
  (w.cell? ⟨b,0,none⟩=some v0∧w.cell? ⟨b,1,none⟩=some v1∧w.cell? ⟨b,2,none⟩=some v2∧w.cell? ⟨b,3,none⟩=some v3∧w.cell? ⟨b,4,none⟩=some v4)∧∀k,w.frozen? ⟨b,k,none⟩=false:=
 ⟨⟨cells_at h rfl,cells_at h rfl,cells_at h rfl,cells_at h rfl,cells_at h rfl⟩,fun _=>frozen_at h⟩
def acV (a:Ac):Value:=.agg #[.string a.nm,.int .i64 a.pa,.int .i64 a.sh,.bool a.cl,.int .u64 a.us]
theorem row_kept {w w1:World} {B e sz n:Nat} {v:Value} {vs:List Value} (h:w.ownsRow B e sz v n vs) (b:Below w.heap.size w w1):w1.ownsRow B e sz v n vs:=by
 refine⟨h.1,?_⟩
 rcases h.2 with h0 | ⟨g,cap,cur,rfl,hb,hg,r⟩
 ·exact .inl h0
 ·exact .inr ⟨g,cap,cur,rfl,hb,(b.block g (Array.getElem?_eq_some_iff.1 hg).1).trans hg,r⟩
theorem own_base {w:World} {B B' e sz n:Nat} {v:Value} {vs:List Value} (h:w.ownsRow B e sz v n vs) (hb:B'≤B):w.ownsRow B' e sz v n vs:=by
 refine⟨h.1,?_⟩
 rcases h.2 with h0 | ⟨g,cap,cur,rfl,hg,r⟩
 ·exact .inl h0
 ·exact .inr ⟨g,cap,cur,rfl,Nat.le_trans hb hg,r⟩
end Go.Proofs.YtceoibfliggalaaGreatDoor
namespace Go.Proofs.YtceoibfliggalaaGreatDoor
open Go.RowKit Tr
def flatA:List Ac→List Value
 | []=> []
 | a::l=>.string a.nm::.int .i64 a.pa::.int .i64 a.sh::.bool a.cl::.int .u64 a.us::flatA l
theorem flatA_len (l:List Ac):(flatA l).length=l.length*5:=by
 induction l with
 | nil=>rfl
 | cons s l ih=>simp [flatA,ih];omega
theorem flatA_app (a b:List Ac):flatA (a++b)=flatA a++flatA b:=by
 induction a with
 | nil=>rfl
 | cons s l ih=>simp [flatA,ih]
theorem flatA_one (l:List Ac):∀u∈flatA l,u.oneCell'=true:=by
 induction l with
 | nil=>intro u h;cases h
 | cons r l ih=>
  intro u h
  simp only [flatA,List.mem_cons]at h
  rcases h with rfl | rfl | rfl | rfl | rfl | h
  ·rfl
  ·rfl
  ·rfl
  ·rfl
  ·rfl
  ·exact ih u h
theorem flatA_at (l:List Ac):∀j a,l[j]?=some a→(flatA l)[j*5]?=some (.string a.nm)∧(flatA l)[j*5+1]?=some (.int .i64 a.pa)∧(flatA l)[j*5+2]?=some (.int .i64 a.sh)∧(flatA l)[j*5+3]?=some (.bool a.cl)∧(flatA l)[j*5+4]?=some (.int .u64 a.us):=by
 induction l with
 | nil=>intro j s h;simp at h
 | cons x l ih=>
  intro j a h
  cases j with
  | zero=>simp at h;subst h;simp [flatA]
  | succ j=>
   have:=ih j a (by simpa using h)
   simp only [flatA]
   rw [show (j+1)*5=j*5+1+1+1+1+1 by omega]
   simpa using this
theorem flatA_cell {W:World} {g o:Nat} {l:List Ac} (h:∀k a,l[k]?=some a→AcAt W g (o+k*5) a):∀j u,(flatA l)[j]?=some u→W.cell? ((⟨g,o,none⟩:Addr).add j)=some u:=by
 intro j u hu
 have ha:(⟨g,o,none⟩:Addr).add j=⟨g,o+j,none⟩:=by unfold Addr.add;split<;>simp_all
 rw [ha]
 have hj:j<l.length*5:=by rw [← flatA_len];exact(List.getElem?_eq_some_iff.1 hu).1
 obtain⟨a,hr⟩:∃a,l[j / 5]?=some a:=⟨_,List.getElem?_eq_getElem (by omega)⟩
 obtain⟨e0,e1,e2,e3,e4⟩:=flatA_at l _ a hr
 have c:=h _ a hr
 have hm:j % 5=0∨j % 5=1∨j % 5=2∨j % 5=3∨j % 5=4:=by omega
 rcases hm with hm | hm | hm | hm | hm
 ·rw [show j / 5*5=j by omega]at e0
  rw [e0]at hu
  cases hu
  have:=c.nm
  rwa [show o+j / 5*5=o+j by omega]at this
 ·rw [show j / 5*5+1=j by omega]at e1
  rw [e1]at hu
  cases hu
  have:=c.pa
  rwa [show o+j / 5*5+1=o+j by omega]at this
 ·rw [show j / 5*5+2=j by omega]at e2
  rw [e2]at hu
  cases hu
  have:=c.sh
  rwa [show o+j / 5*5+2=o+j by omega]at this
 ·rw [show j / 5*5+3=j by omega]at e3
  rw [e3]at hu
  cases hu
  have:=c.cl
  rwa [show o+j / 5*5+3=o+j by omega]at this
 ·rw [show j / 5*5+4=j by omega]at e4
  rw [e4]at hu
  cases hu
  have:=c.us
  rwa [show o+j / 5*5+4=o+j by omega]at this
theorem acs_row {w:World} {B:Nat} {v:Value} {l:List Ac} (h:w.ownsRow B 52 5 v l.length (flatA l)):∃ao c,v=.slice ao l.length c∧AcsAt w ao l∧(ao=none→l= []∧c=0):=by
 rcases h.2 with⟨rfl,h0⟩ | ⟨g,cap,cur,rfl,hb,hg,h1,h2,h3,h4⟩
 ·have e:=List.length_eq_zero_iff.1 h0
  subst e
  exact⟨none,0,rfl,⟨0,0,fun h=>by simp at h,fun k a ha=>by simp at ha⟩,fun _=>⟨rfl,rfl⟩⟩
 ·refine ⟨_,_,rfl,⟨g,0,fun _=>rfl,fun k a ha=>?_⟩,fun h=>by cases h⟩
  have hk:=(List.getElem?_eq_some_iff.1 ha).1
  obtain⟨e0,e1,e2,e3,e4⟩:=flatA_at l k a ha
  rw [← h4,List.getElem?_take_of_lt (by omega),Array.getElem?_toList]at e0 e1 e2 e3 e4
  rw [Nat.zero_add]
  exact⟨cells_at hg e0,cells_at hg e1,cells_at hg e2,cells_at hg e3,cells_at hg e4⟩
structure RefO (B:Nat) (W:World) (d:Nat) (v:Value) (l:List Ac):Prop where
 blk:W.heap[d]?=some (.cells #[v] 114 (0,0))
 row:W.ownsRow B 52 5 v l.length (flatA l)
 lo:B≤d
set_option maxRecDepth 20000 in
theorem RefO.below {B:Nat} {W W':World} {d:Nat} {v:Value} {l:List Ac} (h:RefO B W d v l) (b:Below W.heap.size W W'):RefO B W' d v l:=
 ⟨(b.block d (Array.getElem?_eq_some_iff.1 h.blk).1).trans h.blk,row_kept h.row b,h.lo⟩
theorem Tryz.inf52:(Tryz.prog.info? 52).map (fun i=>(i.zero,i.size,i.bytes))=some (some (.agg #[.string ⟨#[]⟩,.int .i64 0,.int .i64 0,.bool false,.int .u64 0]),5,48):=by kernel_rfl
theorem wpList_append_any {P:Program} {w:World} {ops:Array Oper} {rest:List Oper} {o:Oper} {a:Act} {Q:Exit→Act→World→Prop} (hgd:o.guard=none) (s x:Operand) (t:TypeId)
  (ho:o.op=.call {callee:=.builtin .append,args:= #[s,x],argTypes:= #[t,t]})
  (base:Nat) (e:TypeId) (i:TypeInfo) (z:Value) (size bytes:Nat) (ht:P.underlying t=some (.slice e)) (hi:P.info? e=some i) (hz:i.zero=some z)
  (hsize:i.size=size) (hby:i.bytes=bytes) (hzs:z.cells.size=size) (hsz:0<size)
  (v:Value) (n:Nat) (xs:List Value) (hs:a.eval s=v) (hown:w.ownsRow base e size v n xs)
  (ao:Option Addr) (m c:Nat) (news:List Value) (hx:a.eval x=.slice ao m c) (hnil:ao=none→m=0∧c=0) (hl:news.length=m*size) (hnews:∀ad,ao=some ad→∀j u,news[j]?=some u→w.cell? (ad.add j)=some u) (h1:∀u∈news,u.oneCell'=true)
  (h63:n+m≤maxLen) (hbytes:(n+m)*bytes≤140737488355328) (hbase:base≤w.heap.size)
  (h:∀v' w',w'.ownsRow base e size v' (n+m) (xs++news)→w.grownBy w' v.ownBlock→wpList P ops Q rest (a.put o.dst v') w'):
  wpList P ops Q (o::rest) a w:=by
 cases ao with
 | none=>
  obtain⟨rfl,rfl⟩:=hnil rfl
  have hn0:news= []:=List.length_eq_zero_iff.1 (by rw [hl];omega)
  subst hn0
  exact wpList_append_own_none hgd s x t ho base e i size ht hi v n xs hs hown hx (h v w (by simpa using hown) ⟨rfl,rfl,rfl,Nat.le_refl _,fun _ _ _=>rfl⟩)
 | some ad=>exact wpList_append_own_at _ hgd s x t ho base e i z size bytes ht hi hz hsize hby hzs hsz v n xs hs hown ad m c news hx hl (hnews ad rfl) h1 h63 hbytes hbase (fun v' w' g1 g2 _ _=>h v' w' g1 g2)
set_option maxRecDepth 20000 in
theorem acs_flat {W:World} {ao:Option Addr} {l:List Ac} (h:AcsAt W ao l):∀ad,ao=some ad→∀j u,(flatA l)[j]?=some u→W.cell? (ad.add j)=some u:=by
 intro ad had j u hu
 obtain⟨g,o,h1,h2⟩:=h
 have hj:0<l.length:=by
  have:=(List.getElem?_eq_some_iff.1 hu).1
  rw [flatA_len]at this
  omega
 rw [h1 hj]at had
 injection had with had
 subst had
 exact flatA_cell h2 j u hu
end Go.Proofs.YtceoibfliggalaaGreatDoor
namespace Go.Proofs.YtceoibfliggalaaGreatDoor
open Go.RowKit Tr
structure Chg (K:Nat→Prop) (w w':World):Prop where
 os:w'.os=w.os
 tape:w'.tape=w.tape
 output:w'.output=w.output
 size:w.heap.size≤w'.heap.size
 block:∀k,k<w.heap.size→¬K k→w'.heap[k]?=w.heap[k]?
theorem Chg.refl (K:Nat→Prop) (w:World):Chg K w w:=⟨rfl,rfl,rfl,Nat.le_refl _,fun _ _ _=>rfl⟩
theorem Chg.of_gr {w w':World} {r:Option Nat} (h:w.grownBy w' r) {K:Nat→Prop} (hK:∀k,r=some k→K k∨w.heap.size≤k):Chg K w w':=
 ⟨h.os,h.tape,h.output,h.size,fun k hk hn=>h.block k hk (fun e=>by rcases hK k e.symm with h | h;exact hn h;omega)⟩
theorem Chg.of_below {w w':World} (h:Below w.heap.size w w') (K:Nat→Prop):Chg K w w':=⟨h.os,h.tape,h.output,h.size,fun k hk _=>h.block k hk⟩
theorem Chg.trans {K K':Nat→Prop} {w w1 w2:World} (h:Chg K w w1) (k:Chg K' w1 w2) (hK:∀i,i<w.heap.size→K' i→K i):Chg K w w2:=
 ⟨k.os.trans h.os,k.tape.trans h.tape,k.output.trans h.output,Nat.le_trans h.size k.size,fun i hi hn=>(k.block i (Nat.lt_of_lt_of_le hi h.size) (fun e=>hn (hK i hi e))).trans (h.block i hi hn)⟩
theorem Chg.mono {K K':Nat→Prop} {w w1:World} (h:Chg K w w1) (hK:∀i,i<w.heap.size→K i→K' i):Chg K' w w1:=⟨h.os,h.tape,h.output,h.size,fun i hi hn=>h.block i hi (fun e=>hn (hK i hi e))⟩
theorem Chg.cell {K:Nat→Prop} {w w1:World} (h:Chg K w w1) {a:Addr} {v:Value} (hc:w.cell? a=some v) (hK:¬K a.block):w1.cell? a=some v:=
 (World.cell?_of_block (h.block a.block (World.block_lt_of_cell? w a hc) hK)).trans hc
theorem Chg.setCell {K:Nat→Prop} {w w1:World} (h:Chg K w w1) (p:Addr) (v:Value) (hK:K p.block∨w.heap.size≤p.block):Chg K w (w1.setCell p v):=
 ⟨h.os,h.tape,h.output,by rw [World.size_setCell];exact h.size,fun i hi hn=>by
  rw [Below.heap_setCell _ _ _ _ (fun e=>by subst e;rcases hK with k | k;exact hn k;omega)]
  exact h.block i hi hn⟩
theorem Chg.drew {K:Nat→Prop} {w w1:World} (h:Chg K w w1):Chg K w w1.drew:=⟨h.os,h.tape,h.output,h.size,h.block⟩
theorem Chg.below {K:Nat→Prop} {w0 w w1:World} {B:Nat} (h:Chg K w w1) (hb:Below B w0 w) (hB:B≤w.heap.size) (hK:∀i,K i→B≤i):Below B w0 w1:=
 hb.trans ⟨h.os,h.tape,h.output,h.size,fun k hk=>h.block k (by omega) (fun e=>by have:=hK k e;omega)⟩
def RefK (d:Nat) (v:Value) (j:Nat):Prop:=j=d∨v.ownBlock=some j
theorem flatA_pa:∀(l:List Ac) (n:Nat) (a:Ac) (x:Int),l[n]?=some a→(flatA l).set (n*5+1) (.int .i64 x)=flatA (l.set n {a with pa:=x})
 | [],n,a,x,h=>by simp at h
 | b::l,0,a,x,h=>by simp at h;subst h;rfl
 | b::l,n+1,a,x,h=>by
  have:=flatA_pa l n a x (by simpa using h)
  rw [show (n+1)*5+1=n*5+1+1+1+1+1+1 by omega]
  simp only [flatA,List.set_cons_succ,this]
set_option maxRecDepth 20000 in
theorem RefO.cell {B:Nat} {W:World} {d:Nat} {v:Value} {l:List Ac} (h:RefO B W d v l):W.cell? ⟨d,0,none⟩=some v:=cells_at h.blk rfl
end Go.Proofs.YtceoibfliggalaaGreatDoor
namespace Go.Proofs.YtceoibfliggalaaGreatDoor
open Go.RowKit Tr
theorem new_cells (w:World) (l:List Value) (t:TypeId):∀j u,l[j]?=some u→(w.alloc (.cells l.toArray t)).cell? ((⟨w.heap.size,0,none⟩:Addr).add j)=some u:=by
 intro j u hu
 have ha:(⟨w.heap.size,0,none⟩:Addr).add j=⟨w.heap.size,j,none⟩:=by unfold Addr.add;split<;>simp_all
 rw [ha]
 unfold World.cell?
 rw [heap_alloc_new]
 simpa using hu
theorem row_block {W:World} {B e sz n:Nat} {v:Value} {us:List Value} (h:W.ownsRow B e sz v n us) {k:Nat} (hk:v.ownBlock=some k):B≤k∧∃cs,W.heap[k]?=some (.cells cs e (0,0)):=by
 rcases h.2 with⟨rfl,_⟩ | ⟨g,cap,cur,rfl,hb,hg,_⟩
 ·simp [Value.ownBlock]at hk
 ·simp [Value.ownBlock]at hk
  subst hk
  exact⟨hb,cur,hg⟩
theorem row_same {W W':World} {B e sz n:Nat} {v:Value} {us:List Value} (h:W.ownsRow B e sz v n us) (hg:∀k,v.ownBlock=some k→W'.heap[k]?=W.heap[k]?):W'.ownsRow B e sz v n us:=by
 refine⟨h.1,?_⟩
 rcases h.2 with h0 | ⟨g,cap,cur,rfl,hb,hgg,r⟩
 ·exact .inl h0
 ·exact .inr ⟨g,cap,cur,rfl,hb,(hg g rfl).trans hgg,r⟩
theorem RefO.app {B:Nat} {W W':World} {d:Nat} {v v':Value} {l:List Ac} {a:Ac} {o:Obj} (h:RefO B W d v l) (hrow:W'.ownsRow B 52 5 v' (l.length+1) (flatA l++flatA [a])) (hg:(W.alloc o).grownBy W' v.ownBlock):
  RefO B (W'.setCell ⟨d,0,none⟩ v') d v' (l++ [a])∧Chg (RefK d v) W (W'.setCell ⟨d,0,none⟩ v')∧W'.cell? ⟨d,0,none⟩=some v∧W'.frozen? ⟨d,0,none⟩=false:=by
 have hd:=(Array.getElem?_eq_some_iff.1 h.blk).1
 have keep:∀k,k<W.heap.size→v.ownBlock≠some k→W'.heap[k]?=W.heap[k]?:=fun k hk hne=>(hg.block k (by rw [World.size_alloc];omega) (fun e=>hne e.symm)).trans (Below.heap_alloc _ _ _ hk)
 have g1:W'.heap[d]?=some (.cells #[v] 114 (0,0)):=(keep d hd (fun e=>by
  obtain⟨_,cs,hcs⟩:=row_block h.row e
  have:=h.blk
  rw [hcs]at this;cases this)).trans h.blk
 have g2:=heap_setCell_same W' d 0 _ 114 v' g1
 refine⟨⟨g2,?_,h.lo⟩,?_,cells_at g1 rfl,frozen_at g1⟩
 ·rw [List.length_append,flatA_app]
  refine row_same hrow (fun k hk=>Below.heap_setCell _ _ _ _ (fun e=>?_))
  obtain⟨_,cs,hcs⟩:=row_block hrow hk
  simp at e
  subst e
  rw [hcs]at g1;cases g1
 ·have hz:=hg.size
  rw [World.size_alloc]at hz
  have c1:Chg (RefK d v) W W':=⟨hg.os,hg.tape,hg.output,by omega,fun k hk hK=>keep k hk (fun e=>hK (.inr e))⟩
  exact c1.setCell _ _ (.inl (.inl rfl))
end Go.Proofs.YtceoibfliggalaaGreatDoor

/-
  TEXTS: HeS.
-/
import Derived.Test.YtceoibfliggalaaGreatDoorKw6
import Derived.Test.YtceoibfliggalaaGreatDoorKw13
import Derived.SizedLaws
import Derived.Carry
import Derived.ProofKit
import Derived.Lib.SmallJoins
import Derived.Deep.Slices
namespace Go.Proofs.YtceoibfliggalaaGreatDoor
open Go.ChangeShapes Go.WideShapes Go.ChangeAt Go.RowKit Go.Joins Wd Ld Cg Tr Lg
theorem Tryz.cellsCf:Tryz.prog.cellsOf 23=8:=by kernel_rfl
theorem word_of_wf {x:Int} (h:(Lit.int .u64 x).wf=true):Word x:=by
 simp [Lit.wf,IntKind.min,IntKind.max,IntKind.signed,IntKind.bits]at h
 exact⟨by omega,by omega⟩
theorem eight {α:Type} {l:List α} (h:l.length=8):∃a b c d e f g i,l= [a,b,c,d,e,f,g,i]:=by
 match l,h with
 | [a,b,c,d,e,f,g,i],_=>exact⟨a,b,c,d,e,f,g,i,rfl⟩
set_option maxRecDepth 20000 in
theorem acc_in2 {H:Type} {enc:TypeId×Value→H} {W:World} {fuel:Nat} {cs:List Value} {x:DataW H×List MemPlace} (h:DataW.trod enc Tryz.prog W 0 (fun _=>true) true fuel 52 cs=some x):
  ∃f:Ac,cs=acC f∧(f.nm.size≤maxLen∧Word f.us):=by
 obtain⟨xs,n,_,rfl,hl,hlen,hf⟩:=DataW.trod_struct Tryz.underlying52 h
 rw [Tryz.cellsAcc]at hl
 obtain⟨c0,c1,c2,c3,c4,rfl⟩:=five hl
 obtain⟨y0,y1,y2,y3,y4,rfl⟩:=five (l:=xs) hlen
 clear h
 have h0:=hf 0 _ rfl
 have h1:=hf 1 _ rfl
 have h2:=hf 2 _ rfl
 have h3:=hf 3 _ rfl
 have h4:=hf 4 _ rfl
 simp [Tryz.cellsInt,Tryz.cellsStr,Tryz.cellsBool,Tryz.cellsU64]at h0 h1 h2 h3 h4
 obtain⟨z0,e0,_,w0⟩:=DataW.trod_string Tryz.underlying9 h0
 obtain⟨z1,e1,_,_⟩:=DataW.trod_int Tryz.underlying3 h1
 obtain⟨z2,e2,_,_⟩:=DataW.trod_int Tryz.underlying3 h2
 obtain⟨z3,e3,_⟩:=DataW.trod_bool Tryz.underlying4 h3
 obtain⟨z4,e4,_,w4⟩:=DataW.trod_int Tryz.underlying50 h4
 simp at e0 e1 e2 e3 e4
 subst e0 e1 e2 e3 e4
 exact⟨⟨z0,z1,z2,z3,z4⟩,rfl,w0,word_of_wf w4⟩
theorem accs_in2 {H:Type} {enc:TypeId×Value→H} {W:World} {fuel:Nat} {ao:Option Addr} {L sc:Nat} {x:DataW H×List MemPlace}
  (h:DataW.trod enc Tryz.prog W 0 (fun _=>true) true fuel 24 [.slice ao L sc]=some x) (hw:∀n∈x.1.weights Tryz.prog 24,n≤reachBytes):
  L*48≤140737488355328∧∃l:List Ac,l.length=L∧AcsAt W ao l∧(∀a∈l,a.nm.size≤maxLen)∧(∀(n:Nat) (a:Ac),l[n]?=some a→Word a.us)∧(ao=none→l= []∧sc=0)∧L≤sc:=by
 obtain⟨h1,l,h2,⟨g,o,h3,h4⟩,h5,h6,h7⟩:=five_in acC noAc (fun a=>a.nm.size≤maxLen∧Word a.us) (fun _=>rfl) Tryz.underlying24 Tryz.cellsAcc Tryz.bytesAcc acc_in2 h hw
 exact⟨h1,l,h2,⟨g,o,h3,fun k a ha=>⟨h4 k a ha 0 _ rfl,h4 k a ha 1 _ rfl,h4 k a ha 2 _ rfl,h4 k a ha 3 _ rfl,h4 k a ha 4 _ rfl⟩⟩,fun a ha=>(h5 a ha).1,fun n a ha=>(h5 a (List.mem_of_getElem? ha)).2,h6,h7⟩
theorem weights_all {H:Type} {P:Program} {e:TypeId}:∀ {l:List (DataW H)} {d:DataW H},d∈l→∀n∈d.weights P e,n∈DataW.weightsAll P e l
 | [],d,h,n,hn=>by cases h
 | x::l,d,h,n,hn=>by
  simp only [DataW.weightsAll,List.mem_append]
  rcases List.mem_cons.1 h with rfl | h
  ·exact .inl hn
  ·exact .inr (weights_all h n hn)
theorem Tryz.cellsJob:Tryz.prog.cellsOf 55=8:=by kernel_rfl
theorem Tryz.bytesJob:Tryz.prog.bytesOf 55=80:=by kernel_rfl
theorem Tryz.cellsInts:Tryz.prog.cellsOf 53=1:=by kernel_rfl
theorem Tryz.bytesInt8:Tryz.prog.bytesOf 3=8:=by kernel_rfl
theorem Tryz.cellsSt:Tryz.prog.cellsOf 27=12:=by kernel_rfl
theorem Tryz.cellsAccs:Tryz.prog.cellsOf 24=1:=by kernel_rfl
theorem Tryz.cellsJobs:Tryz.prog.cellsOf 25=1:=by kernel_rfl
theorem recs_inW {H:Type} {α:Type} {enc:TypeId×Value→H} {W:World} {fuel:Nat} {ao:Option Addr} {L sc:Nat} {x:DataW H×List MemPlace} {t e by_ z:Nat} (C:α→List Value) (d:α) (ok:α→Prop) (hz:0<z) (hC:∀f,(C f).length=z)
  (hu:Tryz.prog.underlying t=some (.slice e)) (hce:Tryz.prog.cellsOf e=z) (hby:Tryz.prog.bytesOf e=by_)
  (one:∀ {fuel:Nat} {cs:List Value} {x:DataW H×List MemPlace},DataW.trod enc Tryz.prog W 0 (fun _=>true) true fuel e cs=some x→(∀n∈x.1.weights Tryz.prog e,n≤reachBytes)→∃f:α,cs=C f∧ok f)
  (h:DataW.trod enc Tryz.prog W 0 (fun _=>true) true fuel t [.slice ao L sc]=some x) (hw:∀n∈x.1.weights Tryz.prog t,n≤reachBytes):
  L*by_≤140737488351232∧∃l:List α,l.length=L∧(∃g o,(0<l.length→ao=some ⟨g,o,none⟩)∧∀k r,l[k]?=some r→∀i v,(C r)[i]?=some v→W.cell? ⟨g,o+k*z+i,none⟩=some v)∧(∀r∈l,ok r)∧(ao=none→l.length=0∧sc=0)∧L≤sc:=by
 rcases Go.Deep.open_slice hu h with⟨hc,_⟩ | ⟨a,len,cap,m,n,D,Pl,hc,_,hl,_,hm,hx,hel⟩
 ·simp at hc
  obtain⟨rfl,rfl,rfl⟩:=hc
  exact⟨by omega,[],rfl,⟨0,0,fun h=>(by simp at h),fun k r hk=>by simp at hk⟩,fun r hr=>(by cases hr),fun _=>⟨rfl,rfl⟩,Nat.le_refl _⟩
 ·simp at hc
  obtain⟨rfl,rfl,rfl⟩:=hc
  rw [hce]at hel
  simp at hm
  subst hm
  have hb:=hw ((((List.range L).map D).length+((List.range (m - L)).map fun j=>D (L+j)).length)*Tryz.prog.bytesOf e) (by rw [hx];simp [DataW.weights,hu])
  rw [hby]at hb
  simp only [reachBytes,List.length_map,List.length_range]at hb
  have hel':∀k,∃f:α,k<L→W.cells? 0 (a.add (k*z)) z=some (C f)∧ok f:=fun k=>by
   by_cases hk:k<L
   ·obtain ⟨cs,h1,h2⟩:=hel k (by omega)
    obtain⟨f,rfl,hf⟩:=one h2 (fun n hn=>hw n (by rw [hx];simp only [DataW.weights,hu];exact List.mem_cons_of_mem _ (List.mem_append_left _ (weights_all (List.mem_map_of_mem (List.mem_range.2 hk)) n hn))))
    exact⟨f,fun _=>⟨h1,hf⟩⟩
   ·exact ⟨d,fun h=>absurd h hk⟩
  obtain⟨f,hf⟩:=Classical.axiomOfChoice hel'
  have hget:∀k r,((List.range L).map f)[k]?=some r→k<L∧r=f k:=fun k r hr=>by
   obtain⟨hk,e⟩:=List.getElem?_eq_some_iff.1 hr
   simp at hk e
   exact⟨hk,e.symm⟩
  have hLm:L*by_≤(L+(m - L))*by_:=Nat.mul_le_mul_right _ (Nat.le_add_right _ _)
  refine⟨by omega,(List.range L).map f,by simp,?_,fun r hr=>?_,(fun h=>by cases h),hl⟩
  ·by_cases hL:0<L
   ·obtain ⟨g,o,s⟩:=a
    have hcell:∀k,k<L→∀i v,(C (f k))[i]?=some v→W.cell? ((⟨g,o,s⟩:Addr).add (k*z+i))=some v:=fun k hk i v hv=>by
     have hi:i<z:=by rw [← hC (f k)];exact(List.getElem?_eq_some_iff.1 hv).1
     obtain⟨_,hlen,hcell⟩:=World.cells?_some (hf k hk).1
     have h0:=hcell i (by omega)
     rw [Go.Deep.add_add]at h0
     rw [h0]
     exact hv
    have hs:s=none:=by
     obtain⟨v,hv⟩:∃v,(C (f 0))[0]?=some v:=⟨_,List.getElem?_eq_getElem (by rw [hC];omega)⟩
     have h0:=hcell 0 hL 0 v hv
     have e:(⟨g,o,s⟩:Addr).add (0*z+0)=⟨g,o,s⟩:=by unfold Addr.add;simp
     rw [e]at h0
     exact no_sub h0
    subst hs
    refine⟨g,o,fun _=>rfl,fun k r hk i v hv=>?_⟩
    obtain⟨hkL,rfl⟩:=hget k r hk
    have:=hcell k hkL i v hv
    rwa [Addr.add_lit,←Nat.add_assoc]at this
   ·exact ⟨0,0,fun h=>by simp at h;omega,fun k r hk=>absurd (hget k r hk).1 (by omega)⟩
  ·obtain ⟨k,hk⟩:=List.getElem?_of_mem hr
   obtain⟨hkL,rfl⟩:=hget k r hk
   exact(hf k hkL).2
theorem array12 {α:Type} {cs:Array α} (h:cs.size=12):∃c0 c1 c2 c3 c4 c5 c6 c7 c8 c9 c10 c11,cs= #[c0,c1,c2,c3,c4,c5,c6,c7,c8,c9,c10,c11]:=by
 obtain⟨l⟩:=cs
 match l,h with
 | [c0,c1,c2,c3,c4,c5,c6,c7,c8,c9,c10,c11],_=>exact⟨c0,c1,c2,c3,c4,c5,c6,c7,c8,c9,c10,c11,rfl⟩
theorem fiveL {α:Type} {l:List α} (h:l.length=5):∃a b c d e,l= [a,b,c,d,e]:=by
 match l,h with
 | [a,b,c,d,e],_=>exact⟨a,b,c,d,e,rfl⟩
def pjC (p:Pj):List Value:= [.int .i64 p.v.ac,.int .i64 p.v.nd,.int .i64 p.v.lm,.int .i64 p.v.sb,.int .i64 p.v.st,.int .i64 p.v.sr,.int .i64 p.v.en,.slice p.sa p.v.set.length p.sc]
def SetOk (W:World) (p:Pj):Prop:=IntsAt W p.sa p.v.set∧p.v.set.length*8≤140737488351232∧p.v.set.length≤p.sc∧(p.sa=none→p.v.set= []∧p.sc=0)
set_option maxRecDepth 20000 in
theorem job_in {H:Type} {enc:TypeId×Value→H} {W:World} {fuel:Nat} {cs:List Value} {x:DataW H×List MemPlace} (h:DataW.trod enc Tryz.prog W 0 (fun _=>true) true fuel 55 cs=some x) (hw:∀n∈x.1.weights Tryz.prog 55,n≤reachBytes):
  ∃f:Pj,cs=pjC f∧SetOk W f:=by
 obtain⟨xs,n,_,rfl,hl,hlen,hf⟩:=DataW.trod_struct Tryz.underlying55 h
 rw [Tryz.cellsJob]at hl
 obtain⟨c0,c1,c2,c3,c4,c5,c6,c7,rfl⟩:=eight hl
 obtain⟨y0,y1,y2,y3,y4,y5,y6,y7,rfl⟩:=eight (l:=xs) hlen
 clear h
 have h0:=hf 0 _ rfl
 have h1:=hf 1 _ rfl
 have h2:=hf 2 _ rfl
 have h3:=hf 3 _ rfl
 have h4:=hf 4 _ rfl
 have h5:=hf 5 _ rfl
 have h6:=hf 6 _ rfl
 have h7:=hf 7 _ rfl
 simp [Tryz.cellsInt,Tryz.cellsInts]at h0 h1 h2 h3 h4 h5 h6 h7
 obtain⟨z0,e0,_,_⟩:=DataW.trod_int Tryz.underlying3 h0
 obtain⟨z1,e1,_,_⟩:=DataW.trod_int Tryz.underlying3 h1
 obtain⟨z2,e2,_,_⟩:=DataW.trod_int Tryz.underlying3 h2
 obtain⟨z3,e3,_,_⟩:=DataW.trod_int Tryz.underlying3 h3
 obtain⟨z4,e4,_,_⟩:=DataW.trod_int Tryz.underlying3 h4
 obtain⟨z5,e5,_,_⟩:=DataW.trod_int Tryz.underlying3 h5
 obtain⟨z6,e6,_,_⟩:=DataW.trod_int Tryz.underlying3 h6
 obtain⟨sa,sl,sc,e7⟩:∃sa sl sc,c7=Value.slice sa sl sc:=by
  rcases Go.Deep.open_slice Tryz.underlying53 h7 with⟨hc,_⟩ | ⟨a,len,cap,m,n,D,Pl,hc,_⟩
  ·exact ⟨none,0,0,by simpa using hc⟩
  ·exact ⟨some a,len,cap,by simpa using hc⟩
 simp at e0 e1 e2 e3 e4 e5 e6
 subst e0 e1 e2 e3 e4 e5 e6 e7
 obtain⟨hb,l,hl1,⟨g,o,hg,hat⟩,_,hn1,hn2⟩:=recs_inW (α:=Int) (fun z=> [.int .i64 z]) 0 (fun _=>True) Nat.one_pos (fun _=>rfl) Tryz.underlying53 Tryz.cellsInt Tryz.bytesInt8
  (fun hx _=>by obtain⟨z,e,_,_⟩:=DataW.trod_int Tryz.underlying3 hx;exact⟨z,e,trivial⟩) h7 (fun k hk=>hw k (by simp only [DataW.weights,Tryz.underlying55];exact DataW.weights_mem_each (j:=7) (t:=53) rfl rfl k hk))
 subst hl1
 refine⟨⟨⟨z0,z1,z2,z3,z4,z5,z6,l⟩,sa,sc⟩,rfl,⟨g,o,hg,fun k n hn=>?_⟩,hb,hn2,fun e=>⟨List.length_eq_zero_iff.1 (hn1 e).1,(hn1 e).2⟩⟩
 have:=hat k n hn 0 _ rfl
 simpa using this
set_option maxRecDepth 20000 in
theorem jobs_in {H:Type} {enc:TypeId×Value→H} {W:World} {fuel:Nat} {ao:Option Addr} {L sc:Nat} {x:DataW H×List MemPlace}
  (h:DataW.trod enc Tryz.prog W 0 (fun _=>true) true fuel 25 [.slice ao L sc]=some x) (hw:∀n∈x.1.weights Tryz.prog 25,n≤reachBytes):
  L*80≤140737488351232∧∃l:List Pj,l.length=L∧JobsAt W ao (l.map Pj.jb)∧(∀j∈l,SetOk W j)∧(ao=none→l.length=0∧sc=0)∧L≤sc:=by
 obtain⟨h1,l,h2,⟨g,o,h3,h4⟩,h5,h6,h7⟩:=recs_inW pjC ⟨⟨0,0,0,0,0,0,0,[]⟩,none,0⟩ (SetOk W) (by decide) (fun _=>rfl) Tryz.underlying25 Tryz.cellsJob Tryz.bytesJob job_in h hw
 refine⟨h1,l,h2,⟨g,o,fun hp=>h3 (by rw [List.length_map]at hp;exact hp),fun k j hj=>?_⟩,h5,h6,h7⟩
 rw [List.getElem?_map]at hj
 cases hp:l[k]? with
 | none=>rw [hp]at hj;cases hj
 | some p=>
  rw [hp]at hj
  cases hj
  exact⟨h4 k p hp 0 _ rfl,h4 k p hp 1 _ rfl,h4 k p hp 2 _ rfl,h4 k p hp 3 _ rfl,h4 k p hp 4 _ rfl,h4 k p hp 5 _ rfl,h4 k p hp 6 _ rfl,h4 k p hp 7 _ rfl⟩
set_option maxRecDepth 20000 in
theorem state_in {H:Type} {enc:TypeId×Value→H} {W:World} {b0:Nat} {r:Reach} {v:Value} {d:DataW H} {p:List MemPlace}
  (hv:Value.okWide Tryz.prog W r b0 27 v) (h:DataW.Trod enc Tryz.prog W 0 (fun _=>true) true 27 v d p) (hw:∀n∈d.weights Tryz.prog 27,n≤reachBytes):
  ∃(cf:Cf) (now hd:Int) (ao jo:Option Addr) (la:List Ac) (ps:List Pj) (ca cj:Nat),v=.agg (stL cf now ao la.length ca jo ps.length cj hd)∧StIn W ao la ca jo ps cj:=by
 obtain⟨cs,rfl,hsz⟩:=okWide_struct Tryz.underlying27 hv
 obtain⟨c0,c1,c2,c3,c4,c5,c6,c7,c8,c9,c10,c11,rfl⟩:=array12 (hsz.trans Tryz.cellsSt)
 obtain⟨fuel,hf⟩:=h
 obtain⟨xs,n,_,hd0,hl,hlen,hf⟩:=DataW.trod_struct Tryz.underlying27 hf
 obtain⟨y0,y1,y2,y3,y4,rfl⟩:=fiveL (l:=xs) hlen
 have h0:=hf 0 _ rfl
 have h1:=hf 1 _ rfl
 have h2:=hf 2 _ rfl
 have h3:=hf 3 _ rfl
 have h4:=hf 4 _ rfl
 simp [Tryz.cellsInt,Tryz.cellsCf,Tryz.cellsAccs,Tryz.cellsJobs,Value.cells]at h0 h1 h2 h3 h4
 have hw2:∀k∈y2.1.weights Tryz.prog 24,k≤reachBytes:=fun k hk=>hw k (by rw [(Prod.mk.inj hd0).1];simp only [DataW.weights,Tryz.underlying27];exact DataW.weights_mem_each (j:=2) (t:=24) rfl rfl k hk)
 have hw3:∀k∈y3.1.weights Tryz.prog 25,k≤reachBytes:=fun k hk=>hw k (by rw [(Prod.mk.inj hd0).1];simp only [DataW.weights,Tryz.underlying27];exact DataW.weights_mem_each (j:=3) (t:=25) rfl rfl k hk)
 clear hf hlen hl hd0
 obtain⟨zs,n0,_,_,hl0,hlen0,hf0⟩:=DataW.trod_struct Tryz.underlying23 h0
 obtain⟨u0,u1,u2,u3,u4,u5,u6,u7,rfl⟩:=eight (l:=zs) hlen0
 have g0:=hf0 0 _ rfl
 have g1:=hf0 1 _ rfl
 have g2:=hf0 2 _ rfl
 have g3:=hf0 3 _ rfl
 have g4:=hf0 4 _ rfl
 have g5:=hf0 5 _ rfl
 have g6:=hf0 6 _ rfl
 have g7:=hf0 7 _ rfl
 simp [Tryz.cellsInt]at g0 g1 g2 g3 g4 g5 g6 g7
 obtain⟨z0,e0,_,_⟩:=DataW.trod_int Tryz.underlying3 g0
 obtain⟨z1,e1,_,_⟩:=DataW.trod_int Tryz.underlying3 g1
 obtain⟨z2,e2,_,_⟩:=DataW.trod_int Tryz.underlying3 g2
 obtain⟨z3,e3,_,_⟩:=DataW.trod_int Tryz.underlying3 g3
 obtain⟨z4,e4,_,_⟩:=DataW.trod_int Tryz.underlying3 g4
 obtain⟨z5,e5,_,_⟩:=DataW.trod_int Tryz.underlying3 g5
 obtain⟨z6,e6,_,_⟩:=DataW.trod_int Tryz.underlying3 g6
 obtain⟨z7,e7,_,_⟩:=DataW.trod_int Tryz.underlying3 g7
 obtain⟨z8,e8,_,_⟩:=DataW.trod_int Tryz.underlying3 h1
 obtain⟨z9,e9,_,_⟩:=DataW.trod_int Tryz.underlying3 h4
 simp at e0 e1 e2 e3 e4 e5 e6 e7 e8 e9
 obtain⟨ao,L,ca,ea⟩:∃sa sl sc,c9=Value.slice sa sl sc:=by
  rcases Go.Deep.open_slice Tryz.underlying24 h2 with⟨hc,_⟩ | ⟨a,len,cap,m,n,D,Pl,hc,_⟩
  ·exact ⟨none,0,0,by simpa using hc⟩
  ·exact ⟨some a,len,cap,by simpa using hc⟩
 obtain⟨jo,N,cj,ej⟩:∃sa sl sc,c10=Value.slice sa sl sc:=by
  rcases Go.Deep.open_slice Tryz.underlying25 h3 with⟨hc,_⟩ | ⟨a,len,cap,m,n,D,Pl,hc,_⟩
  ·exact ⟨none,0,0,by simpa using hc⟩
  ·exact ⟨some a,len,cap,by simpa using hc⟩
 subst e0 e1 e2 e3 e4 e5 e6 e7 e8 e9 ea ej
 obtain⟨hb1,la,rfl,ha1,hnm1,hus1,hcp1,hsc1⟩:=accs_in2 h2 hw2
 obtain⟨hb2,ps,rfl,hj2,hj3,hj4,hj5⟩:=jobs_in h3 hw3
 exact⟨⟨z0,z1,z2,z3,z4,z5,z6,z7⟩,z8,z9,ao,jo,la,ps,ca,cj,rfl,⟨ha1,hus1,hnm1,by omega,hsc1,hcp1,⟨hj2,fun p hp=>(hj3 p hp).1⟩,by omega,hj5,fun e=>⟨List.length_eq_zero_iff.1 (hj4 e).1,(hj4 e).2⟩,fun p hp=>by have:=(hj3 p hp).2.1;omega,fun p hp=>(hj3 p hp).2.2.1,fun p hp=>(hj3 p hp).2.2.2⟩⟩
end Go.Proofs.YtceoibfliggalaaGreatDoor

import Derived.Test.YtdhifkbbjlhcaaaGreatDoorKz27
import Derived.Deep.RegionLaw
set_option maxRecDepth 100000
set_option maxHeartbeats 2000000
set_option linter.defProp false
namespace Go.Proofs.YtdhifkbbjlhcaaaGreatDoor
open Go.Proofs.Tryz
variable {L:List A3.Ag.En} {a cap m n:Nat} {ao:Option Addr} {h:Nat->A3.Ag.En} {w:ay}
namespace A3
open Go.RowKit Ag
def qE (r:Raw 198 239 w a m ao cap n h) (i j:Nat) (hi:i<n) (hj:j<n):
  Calls prog 222 #[.pointer (some ⟨a,0,none⟩),J i,J j] w fun e w'=>e=.returned (.bool (OL (h i) (h j)))/\xX w w':=by
 have c0:=r.c0;obtain⟨g,cur,rfl,hr,_,_⟩:=r.has ak;obtain⟨i0,i1,_⟩:=hr.cell hi;obtain⟨j0,j1,_⟩:=hr.cell hj;have ht:=r.top;clear hr r;go_enter func222,ntmps222;go_wp2_with fail
 go_region_held3 (fun w'=>w'.cell? ⟨a,0,none⟩=some (.slice (some ⟨g,0,none⟩) n cap)/\w'.cell? ⟨g,i*2,none⟩=some (J (h i).id)/\w'.cell? ⟨g,i*2+1,none⟩=some (J (h i).tm)/\w'.cell? ⟨g,j*2,none⟩=some (J (h j).id)/\w'.cell? ⟨g,j*2+1,none⟩=some (J (h j).tm)) (first | exact⟨c0,i0,i1,j0,j1⟩ | exact aoP lV lV)
  (first | (go_at_call 263;refine(Ib _ _ _ _ _).mono ?_;rintro e w' ⟨rfl,hg⟩))
 all_goals
  go_wp2
  go_ret
  exact⟨rfl,xX.al4 hg⟩
def PX (r:Raw 198 239 w a m ao cap n h) (i j:Nat) (hi:i<n) (hj:j<n):
  Calls prog 223 #[.pointer (some ⟨a,0,none⟩),J i,J j] w fun e w'=>e=.returned (.tuple #[])/\Raw 198 239 w' a m ao cap n (swp h i j)/\aH (xE a m ao) w w':=by
 have c0:=r.c0;have c1:=r.c1;obtain⟨g,cur,rfl,hr,hga,hgm⟩:=r.has ak;obtain⟨i0,i1,_⟩:=hr.cell hi;obtain⟨j0,j1,_⟩:=hr.cell hj;have fi0:=aD (k:=i*2) hr.blk;have fi1:=aD (k:=i*2+1) hr.blk;have fj0:=aD (k:=j*2) hr.blk;have fj1:=aD (k:=j*2+1) hr.blk;have ht:=r.top;have⟨D,ho,hp⟩:=r.pm;have⟨aF5,hr1⟩:=hr.Yr hi (h j);have⟨az0,hr2⟩:=hr1.Yr hj (h i);rw[← al5]at hr2;have M0:Hid (Mid 198 239 w a m g cap n (swp h i j) D _):=⟨(gy _ _ _ _ (iN hga)).trans ((gy _ _ _ _ (iN hga)).trans ((gy _ _ _ _ (iN hga)).trans ((gy _ _ _ _ (iN hga)).trans r.blk))),⟨az0,hr2⟩,(((ho.setCell (iN hgm) _).setCell (iN hgm) _).setCell (iN hgm) _).setCell (iN hgm) _,((((aH.refl _ w).setCell _ _ (.inl (.inr (.inr ⟨g,rfl,rfl⟩)))).setCell _ _ (.inl (.inr (.inr ⟨g,rfl,rfl⟩)))).setCell _ _ (.inl (.inr (.inr ⟨g,rfl,rfl⟩)))).setCell _ _ (.inl (.inr (.inr ⟨g,rfl,rfl⟩)))⟩;have R:Hid _:=r;have HP:Hid _:=hp;clear hr r hr1 hr2 hp ho;go_enter func223,ntmps223;go_wp2_with fail
 go_cut [1] (fun p wc=>p=J i/\Mid 198 239 w a m g cap n (swp h i j) D wc)
 case first=>
  by_cases hij:i=j
  ·subst hij;go_region
   all_goals (go_wp2_with fail;go_meet;exact⟨rfl,M0.out.drew⟩)
  ·have hji:¬j=i:=fun e=>hij e.symm;go_region
   all_goals (go_wp2_with fail;go_meet;exact⟨rfl,M0.out.drew⟩)
 case rest=>
  obtain⟨rfl,hm⟩:=hcut;clear c0 c1 i0 i1 j0 j1 fi0 fi1 fj0 fj1 M0;have ham:=R.out.am;have s1:=HP.out.au4 hj (V0 i);have s2:=(HP.out.swap hi hj).size;have c0:=hm.c0;have c1:=hm.c1;have e0:=hm.cell hi;rw[Bf]at e0;have⟨w2,hrun,hm2⟩:=hm.drew.put (PU ht aT) hgm ham (R.out.ok j hj).1 (wfN ak) s1;have d0:=hm2.c0;have d1:=hm2.c1;have e1:=hm2.cell hj;rw[EA]at e1;have⟨w3,au5,hm3⟩:=hm2.drew.put (PU ht aT) hgm ham (R.out.ok i hi).1 (wfN ak) s2;have M2:Hid _:=hm2;have M3:Hid _:=hm3;clear hm hm2 hm3;go_wp2_with fail
  go_region
  all_goals
   go_wp2_with fail
   go_region
   all_goals
    go_wp2_with fail
    go_end0
    refine⟨rfl,⟨M3.out.blk,.inr (M3.out.row.elim fun c hc=>⟨g,c,rfl,hc⟩),⟨_,M3.out.own,HP.out.swap hi hj⟩,ham,R.out.ag,?_,ht⟩,M3.out.fF⟩
    exact aqS (p:=fun e=>QC e.id/\QC e.tm/\True) R.out.ok hi hj
end A3
namespace A3
open Go.RowKit Ag
def ahH (r:Raw 198 239 w a m ao cap n h) (p:Nat) (hp:p<n) (u:EB h n p):
  Calls prog 184 #[.pointer (some ⟨a,0,none⟩),J p] w fun e w'=>e=.returned (.tuple #[])/\∃h',Way 198 239 w a m ao cap n h w' h'/\Heap h' n:=by
 have ht:=r.top;have R:Hid _:=r;clear r;go_enter func184,ntmps184;go_wp2;go_loopg [1] p (fun gk c wr=>∃k:Nat,k=gk/\c=J k/\k<n/\∃h',Way 198 239 w a m ao cap n h wr h'/\EB h' n k)
 case atStart=>exact⟨p,rfl,rfl,hp,h,⟨R.out,Same.refl _ _,aH.refl _ _⟩,u⟩
 case round=>
  obtain⟨gk,hgk,rfl,hk,h',hw,hu⟩:=hrel;have HGK:Hid _:=hgk;clear hgk;by_cases k0:gk=0
  ·subst k0;have W:Hid _:=hw;clear hw;go_wp2;go_end0
   exact⟨rfl,h',W.out,hu.top⟩
  ·have hpar:par gk<n:=by have:=Q9 (k:=gk) ak;omega
   have e1:((gk:Int) - 1) / 2=(par gk:Int):=by unfold par;omega
   have hk0:0<gk:=ak;have W:Hid _:=hw
   cases hb:OL (h' (par gk)) (h' gk)
   ·go_wp2_with (first
     | (go_at_call 222;refine(qE hw.raw (par gk) gk hpar hk).mono ?_;rw[hb];rintro e w1 ⟨rfl,hg⟩;have hw1:=hw.grew hg)
     | (go_at_call 223;refine(PX hw1.raw (par gk) gk hpar hk).mono ?_;rintro e w2 ⟨rfl,hr2,hc2⟩;have hw2:=hw1.swap hpar hk hr2 hc2))
    go_roundg (par gk)
    case measure=>have:=Q9 hk0;have:=HGK.out;omega
    case rel=>exact⟨_,rfl,rfl,hpar,_,hw2,hu.step hk0 hk (ZC _ _ hb)⟩
   ·go_wp2_with (first
     | (go_at_call 222;refine(qE hw.raw (par gk) gk hpar hk).mono ?_;rw[hb];rintro e w1 ⟨rfl,hg⟩;have hw1:=hw.grew hg))
    refine b_ (qV rfl _ _ _) rfl ?_;exact⟨rfl,h',hw1,hu.stop (PY _ _ hb)⟩
def aqU (r:Raw 198 239 w a m ao cap n h) (p:Nat) (hp:p<n) (u:Hole h n p):
  Calls prog 224 #[.pointer (some ⟨a,0,none⟩),J p] w fun e w'=>e=.returned (.tuple #[])/\∃h',Way 198 239 w a m ao cap n h w' h'/\EB h' n p:=by
 have ht:=r.top;have R:Hid _:=r;clear r;go_enter func224,ntmps224;go_wp2;go_loopg [1] (n - p) (fun gk c wr=>∃k:Nat,gk=n - k/\c=J k/\k<n/\∃h',Way 198 239 w a m ao cap n h wr h'/\Dl h' n p k)
 case atStart=>exact⟨p,rfl,rfl,hp,h,⟨R.out,Same.refl _ _,aH.refl _ _⟩,.inl ⟨rfl,u⟩⟩
 case round=>
  obtain⟨gk,hgk,rfl,hk,h',hw,hu⟩:=hrel;have HGK:Hid _:=hgk;clear hgk;have c0:=hw.raw.c0;obtain⟨b,hb⟩:∃b,b=2*gk+1:=⟨_,rfl⟩;obtain⟨c,hc⟩:∃c,c=b+1:=⟨_,rfl⟩;have e1:2*(gk:Int)+1=(b:Int):=ak;have e2:(b:Int)+1=(c:Int):=ak;have HB:Hid _:=hb;have HC:Hid _:=hc;by_cases hbn:n<=b
  ·have W:Hid _:=hw;clear hw hb hc;go_wp2;refine b_ (qV rfl _ _ _) rfl ?_;exact⟨rfl,h',W.out,hu.stop (fun k a1 a2 a3=>by have:=HB.out;unfold par at a3;omega)⟩
  ·have MZ:b<n:=ak;by_cases hcn:c<n
   ·cases hbc:OL (h' c) (h' b)
    ·have hl:=Yt HB.out HC.out hcn hbc
     cases hpb:OL (h' gk) (h' b)
     ·clear hb hc;go_wp2_with fail
      refine(qE hw.raw c b hcn MZ).mono ?_;rw[hbc];rintro e w0 ⟨rfl,hg0⟩;replace hw:=hw.grew hg0;replace c0:=hw.raw.c0;exact atC
     ·clear hb hc;go_wp2_with fail
      refine(qE hw.raw c b hcn MZ).mono ?_;rw[hbc];rintro e w0 ⟨rfl,hg0⟩;replace hw:=hw.grew hg0;replace c0:=hw.raw.c0;exact anG
    ·have hl:=U6 HB.out HC.out hcn hbc
     cases hpb:OL (h' gk) (h' c)
     ·clear hb hc;go_wp2_with fail
      refine(qE hw.raw c b hcn MZ).mono ?_;rw[hbc];rintro e w0 ⟨rfl,hg0⟩;replace hw:=hw.grew hg0;replace c0:=hw.raw.c0;go_wp2_with fail
      refine(qE hw.raw gk c hk hcn).mono ?_;rw[hpb];rintro e w1 ⟨rfl,hg⟩;have hw1:=hw.grew hg;go_wp2_with fail
      refine(PX hw1.raw gk c hk hcn).mono ?_;rintro e w2 ⟨rfl,hr2,hc2⟩;have hw2:=hw1.swap hk hcn hr2 hc2;go_wp2;go_roundg (n - c)
      case measure=>have:=HGK.out;have:=HB.out;have:=HC.out;omega
      case rel=>exact⟨_,rfl,rfl,hcn,_,hw2,.inr (hu.hole.step hl (ZC _ _ hpb))⟩
     ·clear hb hc;go_wp2_with fail
      refine(qE hw.raw c b hcn MZ).mono ?_;rw[hbc];rintro e w0 ⟨rfl,hg0⟩;replace hw:=hw.grew hg0;replace c0:=hw.raw.c0;go_wp2_with fail
      refine(qE hw.raw gk c hk hcn).mono ?_;rw[hpb];rintro e w1 ⟨rfl,hg⟩;have hw1:=hw.grew hg;go_wp2;refine b_ (qV rfl _ _ _) rfl ?_;exact⟨rfl,h',hw1,hu.stop (fun k a1 a2 a3=>(PY _ _ hpb).trans (hl.2.2.2 k a1 a2 a3))⟩
   ·have hl:Ic h' n gk b:=acN HB.out HC.out MZ hcn
    cases hpb:OL (h' gk) (h' b)
    ·clear hb hc;exact atC
    ·clear hb hc;exact anG
end A3
namespace A3
open Go.RowKit Ag
def Va {cap l:Nat} (r:Raw 198 239 w a m ao cap (l+1) h) (p:Nat) (hp:p<l+1) (hh:Heap h (l+1)):
  Calls prog 186 #[.pointer (some ⟨a,0,none⟩),J p] w fun e w'=>e=.returned (.tuple #[])/\∃h',Way 198 239 w a m ao cap l (swp h p l) w' h'/\Heap h' l:=by
 have ht:=r.top;have c0:=r.c0;have el:((l:Int)+1) - 1=(l:Int):=ak;go_enter func186,ntmps186;go_wp2_with fail
 refine(PX r p l hp ak).mono ?_;rintro e w1 ⟨rfl,r1,g1⟩;have⟨D,ho,hd⟩:=r1.pm;obtain⟨g,cur,rfl,hr,hga,hgm⟩:=r1.has ak;have⟨w2,hrun,ho2,ht2⟩:=ho.drew.drop (NH underlying3) underlying195 (NG underlying3 (r1.ok l ak).1) 0;have d0:=r1.c0;have d1:=r1.c1;obtain⟨i0,i1,_⟩:=hr.cell (k:=l) ak;have hz:=hr.sz;have hle:=hr.le;have hg2:=ht2.grown;have b2:w2.heap[a]?=w1.heap[a]?:=hg2.block a r1.alt (fun e=>r1.am (ji e));have k2:w2.heap[g]?=w1.heap[g]?:=hg2.block g hr.lt (fun e=>hgm (ji e));have hr2:=hr.of_heap k2;have e0:=fK 0 (b2.trans r1.blk);have fa:w2.frozen? ⟨a,0,none⟩=false:=aD (b2.trans r1.blk);have⟨w3,az1,au5,hr3,hg3⟩:=acO 196 239 underlying196 zeroValue239 hr2;have b3:=(hg3.block a (by have:=hg2.size;have:=r1.alt;have:w1.drew.heap.size=w1.heap.size:=rfl;omega) (fun e=>hga (ji e).symm)).trans b2;have e3:=fK 0 (b3.trans r1.blk);have f3:w3.frozen? ⟨a,0,none⟩=false:=aD (b3.trans r1.blk);have hblk:=bS w3 a 0 _ 198 (.slice (some ⟨g,0,none⟩) l cap) (b3.trans r1.blk);have ho3:w3.ownsMap prog 3 (plainElem prog 3) m (l+1) (D.del (K0 (swp h p l l).id)):=ho2.kept hg3 (fun e=>hgm (ji e).symm);have ho4:=tight (ho3.setCell (a:=⟨a,0,none⟩) (iN r1.am) (.slice (some ⟨g,0,none⟩) l cap));rw[hd.pop.size]at ho4;have R4:Hid (Raw 198 239 (w3.setCell ⟨a,0,none⟩ (.slice (some ⟨g,0,none⟩) l cap)) a m (some ⟨g,0,none⟩) cap l (swp h p l)):=
  ⟨hblk,.inr ⟨g,az1,rfl,hr3.of_heap (gy _ _ _ _ hga)⟩,⟨_,ho4,hd.pop⟩,r1.am,r1.ag,fun k hk=>r1.ok k ak,by omega⟩
 have C4:Hid (aH (xE a m (some ⟨g,0,none⟩)) w (w3.setCell ⟨a,0,none⟩ (.slice (some ⟨g,0,none⟩) l cap))):=
  (((g1.drew.turned ht2 (.inr (.inl rfl))).trans (K':=fun i=>i=g) (aH.uP hg3 (fun _ e=>.inl (ji e).symm)) (fun _ _ e=>.inr (.inr ⟨g,rfl,e⟩))).setCell _ _ (.inl (.inl rfl)))
 clear hr hr2 hr3 r r1 ho ho2 ho3 ho4 hd hg2 hg3 ht2 hblk b2 b3 k2 hz g1;go_wp2_with fail
 go_region
 all_goals
  by_cases hpl:p<l
  ·go_wp2_with fail
   refine(aqU R4.out p hpl (al6 hh hpl)).mono ?_
   rintro e w5 ⟨rfl,h5,W5,u5⟩
   go_wp2_with fail
   refine(ahH W5.raw p hpl u5).mono ?_
   rintro e w6 ⟨rfl,h6,W6,u6⟩
   go_wp2
   go_end0
   have W:=W5.trans W6
   exact⟨rfl,h6,⟨W.raw,W.same,C4.out.trans W.fF (fun _ _ h=>h)⟩,u6⟩
  ·obtain rfl:p=l:=ak
   go_wp2
   go_end0
   exact⟨rfl,_,⟨R4.out,Same.refl _ _,C4.out⟩,ahE hh⟩
end A3
namespace A3
open Go.RowKit Ag
def ahI (w:ay):Calls prog 81 #[] w fun e w'=>e=.returned (.pointer (some ⟨w.heap.size+1,0,none⟩))/\r_ 198 239 w' (w.heap.size+1) w.heap.size none []/\Z w w':=by
 have hmm:= @run_makeMap prog;go_enter func81,ntmps81;go_wp2;go_ret;refine⟨rfl,⟨0,0,fun _=>default,⟨?_,.inl ⟨rfl,rfl,rfl⟩,⟨.map [],ownsMap_at rfl _,⟨⟨_,rfl⟩,⟨_,rfl,List.Pairwise.nil⟩,rfl,fun k hk=>ak,fun i _=>⟨rfl,rfl⟩⟩⟩,by omega,fun g e=>(by cases e),fun k hk=>ak,by omega⟩,fun k _ hk=>ak,al7 _⟩,((aI _ w).alloc (aC _) _).alloc dF _⟩;have:=aK (w.alloc (.map #[] 0)) (.cells #[.slice none 0 0,.map (some w.heap.size)] 198);rwa [iI]at this
def Yx (r:r_ 198 239 w a m ao []):
  Calls prog 267 #[.pointer (some ⟨a,0,none⟩)] w fun e w'=>e=.returned (.tuple #[J 0,J 0,.bool false])/\w'=w:=by
 obtain⟨cap,n,h,r⟩:=r;have c0:=r.raw.c0;obtain rfl:=r.WQ.nil;clear r;go_enter func267,ntmps267;go_wp2;refine b_ (v:=.tuple #[J 0,J 0,.bool false]) (by simp[results,results267,go_sem]) rfl ?_;exact⟨rfl,rfl⟩
def Ie {f:En} (r:r_ 198 239 w a m ao (f::L)):
  Calls prog 267 #[.pointer (some ⟨a,0,none⟩)] w fun e w'=>e=.returned (.tuple #[J f.id,J f.tm,.bool true])/\xX w w':=by
 obtain⟨cap,n,h,r⟩:=r;have c0:=r.raw.c0;have⟨hn,hf⟩:=r.WQ.head r.heap;obtain⟨g,cur,rfl,hr,_,_⟩:=r.raw.has hn;obtain⟨i0,i1,_⟩:=hr.cell hn;have ht:=r.raw.top;rw[hf,ND]at i0 i1;rw[rJ]at i1;clear r hr hf;go_enter func267,ntmps267;go_wp2_with fail
 go_quiet (fail)
 all_goals
  go_wp2
  refine b_ (v:=.tuple #[J f.id,J f.tm,.bool true]) (by simp[results,results267,go_sem]) rfl ?_
  exact⟨rfl,xX.drN _ _⟩
def acT (r:r_ 198 239 w a m ao L) (i:Int) (hi:QC i) (hf:∀f∈L,f.id≠i):
  Calls prog 144 #[.pointer (some ⟨a,0,none⟩),J i] w fun e w'=>e=.returned (.bool false)/\w'=w:=by
 obtain⟨cap,n,h,r⟩:=r;have c1:=r.raw.c1;have hl:=r.raw.aaB hi (fun k hk=>hf _ ((r.WQ.mem _).2 ⟨k,hk,rfl⟩));clear r hf;go_enter func144,ntmps144;exact mY
def Yy (r:r_ 198 239 w a m ao L) (f:En) (hf:f∈L):
  Calls prog 144 #[.pointer (some ⟨a,0,none⟩),J f.id] w fun e w'=>e=.returned (.bool true)/\r_ 198 239 w' a m ao (BI f.id L)/\aH (xE a m ao) w w':=by
 obtain⟨cap,n,h,r⟩:=r;have c1:=r.raw.c1;obtain⟨k,hk,rfl⟩:=(r.WQ.mem f).1 hf;obtain⟨l,rfl⟩:∃l,n=l+1:=⟨n - 1,by omega⟩;have hl:=r.raw.ahF hk;have R:Hid _:=r;clear r hf;go_enter func144,ntmps144;go_wp2_with fail
 refine(Va R.out.raw k hk R.out.heap).mono ?_;rintro e w1 ⟨rfl,h1,W,H1⟩;go_wp2;go_ret;exact⟨rfl,⟨cap,l,h1,W.raw,H1,(R.out.WQ.del R.out.raw.inj hk).same W.same⟩,W.fF⟩
def au6 (b:Nat) (w:ay):(Instr.loadAt 128 (.pointer (some ⟨b,0,none⟩))).run prog w=.ok (.agg #[]) w:=by simp[go_sem,Instr.loadAt]
def aaE:(Value.slice ao n cap).ownBlock=ao.map (·.block):=by cases ao<;>rfl
def acU {n cap g':Nat} {H:Nat} (hs:∀x,ao=some x->x=⟨x.block,0,none⟩) (hH:w.heap.size<=H) (h:(Value.slice ao n cap).ownBlock=some g'\/g'=H):Moved w ao (some ⟨g',0,none⟩):=by
 rcases h with h | h
 ·rw[aaE]at h
  cases ao with
  | none=>grind
  | some x=>grind[Moved]
 grind[Moved]
def acW {w w0 w':ay} (b:Z w w0) (c:aH (xE a m ao) w0 w'):aH (xE a m ao) w w':=(aH.of_below b (xE a m ao)).trans c (fun _ _ h=>h)
def acX (r:r_ 198 239 w a m ao L) (i t:Int) (hi:QC i) (hit:QC t) (hf:∀f∈L,f.id≠i) (hb:(L.length+1)*40<=140737488355328):
  Calls prog 137 #[.pointer (some ⟨a,0,none⟩),J i,J t,.agg #[]] w fun e w'=>e=.returned (J 0)/\∃Da,r_ 198 239 w' a m Da (I4 ⟨i,t⟩ L)/\Moved w ao Da/\aH (xE a m ao) w w':=by
 have⟨w0,hw0⟩:=aZ (w.alloc (.cells #[] 128));have b0:Z w w0:=by rw[← hw0];exact dY
 have B0:Hid _:=b0;replace r:=r.below b0;clear b0;obtain⟨cap,n,h,r⟩:=r;have c0:=r.raw.c0;have c1:=r.raw.c1;have hne:=fun k (hk:k<n)=>hf _ ((r.WQ.mem _).2 ⟨k,hk,rfl⟩);have hl:=r.raw.aaB hi hne;rw[r.len]at hb;obtain⟨i0,hi0,hz0,hz1,hz2⟩:=fA (show (prog.info? 239).map (fun i=>(i.zero,i.size,i.bytes))=some (some (.agg #[J 0,J 0]),2,24) by kernel_rfl);have hown:=r.raw.row.owns;have R:Hid _:=r;clear r;go_enter func137,ntmps137;have c0a:∀o:Obj,(w0.alloc o).cell? ⟨a,0,none⟩=some (.slice ao n cap):=fun o=>bK c0 o;have hld:=fun(W:ay)=>au6 w.heap.size W;have aCQ:∀A:Array Value,Array.foldl (fun (cs:Array Value) (x:Value×Nat)=>cs.setIfInBounds (2+x.snd) x.fst) A (#[]:Array Value).zipIdx 0 0=A:=fun A=>rfl;go_upto_region 1 with fail
 have RD:Hid (Raw 198 239 w0.drew a m ao cap n h):=R.out.raw.below ⟨rfl,rfl,rfl,aC _,fun _ _=>rfl⟩;have HSH:Hid (∀x,ao=some x->x=⟨x.block,0,none⟩):=fun x hx=>by
  rcases Yu hown with⟨e,_⟩ | ⟨g,cap',e,_⟩
  ·injection e with e1;rw[e1]at hx;cases hx
  ·injection e with e1;rw[e1]at hx;cases hx;rfl
 have hown':Hid (w0.drew.ownsRow 0 239 2 (.slice ao n cap) n (flat h n)):=hown;clear hown;go_upto_region 5 with fail
 go_region_law (refine Cu _ iW (.tmp 31) (.tmp 37) 196 iW 0 239 i0 _ 2 24 underlying196 hi0 hz0 hz1 hz2 rfl aT (.slice ao n cap) n (flat h n) gM (Cv (w:=w0.drew) hown'.out _) ⟨w0.heap.size,0,none⟩ 1 1 (En.cells ⟨i,t⟩) gM rfl (mJ w0.drew _ _) (fun u hu=>by simp[En.cells]at hu;rcases hu with rfl | rfl<;>rfl) ak (bM (m:=35184372088832) ak aT) ak ak (w0.heap.size+1) dF ?_;intro g' cap' w1 hrow hgr hat _;have⟨d0,f0,d1,w3,hrun,R3,C3,M3⟩:=add_mid RD.out (o:=.cells #[J i,J t] 239) (e:=⟨i,t⟩) ⟨hi,hit,trivial⟩ hne ak hrow (by rw[← aaE (n:=n) (cap:=cap)];exact hgr) (acU HSH.out dF hat))
 all_goals
  go_wp2_with (go_at_call 184;refine(ahH R3 n ak (acQ R.out.heap _)).mono ?_;rintro e w4 ⟨rfl,h4,W4,H4⟩)
  go_ret
  refine⟨rfl,some ⟨g',0,none⟩,⟨cap',n+1,h4,W4.raw,H4,(R.out.WQ.add hf).same W4.same⟩,?_,acW B0.out ((aH.of_below (⟨rfl,rfl,rfl,aC _,fun _ _=>rfl⟩:Z w0 w0.drew) (xE a m ao)).trans (C3.trans W4.fF (fun k hk hK=>acR M3 hk hK)) (fun _ _ h=>h))⟩
  rcases M3 with e | ⟨g,hg,e⟩
  ·exact .inl e
  ·exact .inr ⟨g,bM B0.out.size hg,e⟩
end A3
namespace A3
open Go.RowKit Go.Shelf Ag
attribute [local go_sem] Oper.semAt_some
def Tryz.Vb:(prog.info? 3).map (fun i=>(i.zero,i.size,i.bytes))=some (some (J 0),1,8):=aF
def acY (a:Nat) (now:Int) (w:ay):Calls prog 226 #[.pointer (some ⟨a,0,none⟩),J now] w fun e w'=>
  e=.returned (.func (.func 266) #[] #[.pointer (some ⟨w.heap.size,0,none⟩),.pointer (some ⟨w.heap.size+1,0,none⟩)])/\w'=(w.alloc (.cells #[.pointer (some ⟨a,0,none⟩)] 97)).alloc (.cells #[J now] 3):=by
 go_enter func226,ntmps226;exact mY
def au7 {f:En} (r:r_ 198 239 w a m ao (f::L)):
  Calls prog 186 #[.pointer (some ⟨a,0,none⟩),J 0] w fun e w'=>e=.returned (.tuple #[])/\r_ 198 239 w' a m ao (BI f.id (f::L))/\aH (xE a m ao) w w':=by
 obtain⟨cap,n,h,r⟩:=r;have⟨hn,hf⟩:=r.WQ.head r.heap;obtain⟨l,rfl⟩:∃l,n=l+1:=⟨n - 1,by omega⟩;refine(Va r.raw 0 hn r.heap).mono ?_;rintro e w1 ⟨rfl,h1,W,H1⟩;exact⟨rfl,⟨cap,l,h1,W.raw,H1,hf▸(r.WQ.del r.raw.inj hn).same W.same⟩,W.fF⟩
def al8 (hn:1<=n) {l b1 b2 a m:Nat} {now:Int} {N:Nat->Prop} {T:List Int->World->Prop} (hT:∀pre A B,T pre A->aH (xE a m ao) A B->T pre B)
  (L:List En) (hY:∀pre x W,pre.length<L.length->T pre W->YieldAt Fence.wide (n - 1) prog l #[J x] W fun e W'=>e=.returned (.bool true)/\T (pre++ [x]) W'/\aH N W W')
  (hN:∀k,N k->¬xE a m ao k/\k≠b1/\k≠b2) (hk1:¬xE a m ao b1) (hk2:¬xE a m ao b2)
  (W:ay) (c1:W.cell? ⟨b1,0,none⟩=some (.pointer (some ⟨a,0,none⟩))) (c2:W.cell? ⟨b2,0,none⟩=some (J now)) (hA:r_ 198 239 W a m ao L) (h0:T [] W):
  CallsIn Fence.wide n prog 266 #[.func (.yield l) #[] #[],.pointer (some ⟨b1,0,none⟩),.pointer (some ⟨b2,0,none⟩)] W fun e W'=>(∃v,e=.returned v)/\
   T ((vT now L).map En.id) W'/\r_ 198 239 W' a m ao (mR now L)/\aH (fun k=>xE a m ao k\/N k) W W':=by
 refine callsIn_of_wp func266 rfl trivial ?_ rfl;simp only[ntmps266,vD,dK,jh,Nat.reduceAdd,Nat.reduceSub,vE,vF,vG,vH,pY,mP];gi_wp2
 gi_loopw [4] (fun _ wr=>∃pre rest,L=pre++rest/\(∀e∈pre,e.tm<=now)/\ng 198 239 a m ao b1 b2 now N T W pre rest wr) (fun _ wr=>ahG wr a)
 case atStart=>exact⟨[],L,rfl,fun _ h=>(by grind),⟨c1,c2,hA,h0,aH.refl _ _⟩⟩
 case round=>
  obtain⟨pre,rest,hL,hpre,hw⟩:=hrel
  cases rest with
  | nil=>
   have d1:=hw.c1;have d2:=hw.c2
   gi_wp2_with (first
    | (refine ⟨trivial,?_⟩;gi_at_call 267;refine(mg.2 (Yx hw.agn)).mono ?_;rintro e w1 ⟨rfl,rfl⟩))
   refine b_ (qV rfl _ _ _) rfl ?_;obtain⟨e1,e2⟩:=OM hL hpre (fun f l h=>by grind);grind[ng.t,ng.agn,ng.fF]
  | cons f rest=>
   have d1:=hw.c1;have d2:=hw.c2;by_cases aqV:now<f.tm
   ·gi_wp2_with (first
     | (refine ⟨trivial,?_⟩;gi_at_call 267;refine(mg.2 (Ie hw.agn)).mono ?_;rintro e w1 ⟨rfl,hg⟩;have hw1:=hw.grew hT hg;have d2':=hw1.c2))
    refine b_ (qV rfl _ _ _) rfl ?_;grind[OM,ng.t,ng.agn,ng.fF]
   ·gi_wp2_with (first
     | (refine ⟨trivial,?_⟩;gi_at_call 267;refine(mg.2 (Ie hw.agn)).mono ?_;rintro e w1 ⟨rfl,hg⟩;have hw1:=hw.grew hT hg;have d2':=hw1.c2;have d1':=hw1.c1)
     | (refine ⟨trivial,?_⟩;gi_at_call 186;refine(mg.2 (au7 hw1.agn)).mono ?_;rintro e w2 ⟨rfl,r2,c2'⟩;have hw2:=hw1.drop hT hk1 hk2 r2 c2';have⟨fn,tmps,assign,body,hy,hR⟩:=hY _ f.id _ (by grind) hw2.t))
    refine hR.mono ?_;rintro e w3 ⟨rfl,ht3,c3⟩;have hw3:=hw2.round (f:=f) hN ht3 c3;gi_wp2
    go_roundw
    case rel=>grind
    case measure=>rw[U_ hw3.agn,U_ hw.agn];simp
def au8 (r:r_ 198 239 w a m ao L) (now:Int) (hlen:L.length*8<=140737488355328):
  Calls prog 189 #[.pointer (some ⟨a,0,none⟩),J now] w fun e w'=>∃v,e=.returned v/\w'.ownsRow w.heap.size 3 1 v (vT now L).length (ints ((vT now L).map En.id))/\r_ 198 239 w' a m ao (mR now L)/\aH (xE a m ao) w w':=by
 refine(mg (n:=3)).1 ?_;refine JV func189 rfl trivial ?_ rfl;simp only[ntmps189,vD,dK,jh,Nat.reduceAdd,Nat.reduceSub,vE,vF,vG,vH,pY,mP]
 gi_wp2_with (first
  | (refine ⟨trivial,?_⟩;gi_at_call 226;refine(mg.2 (acY a now _)).mono ?_;rintro e w1 ⟨rfl,rfl⟩))
 have⟨w3,hw3⟩:=aZ (((w.alloc (.cells #[.slice none 0 0] 36)).alloc (.cells #[.pointer (some ⟨a,0,none⟩)] 97)).alloc (.cells #[J now] 3));have sz:w3.heap.size=w.heap.size+3:=by rw[← hw3];simp
 have b3:Z w w3:=by rw[← hw3];exact(((aI _ w).alloc (aC _) _).alloc dF _).alloc fE _
 have x0:w3.heap[w.heap.size]?=some (.cells #[.slice none 0 0] 36 (0,0)):=by rw[← hw3];exact(iM _ _ _ fE).trans ((iM _ _ _ dF).trans (aK w _))
 have x1:w3.cell? ⟨w.heap.size+1,0,none⟩=some (.pointer (some ⟨a,0,none⟩)):=by rw[← hw3];have:=iQ (w.alloc (.cells #[.slice none 0 0] 36)) (cs:= #[.pointer (some ⟨a,0,none⟩)]) (t:=97) (k:=0) rfl;rw[iI]at this;exact bK this _
 have x2:w3.cell? ⟨w.heap.size+1+1,0,none⟩=some (J now):=by rw[← hw3];have:=iQ ((w.alloc (.cells #[.slice none 0 0] 36)).alloc (.cells #[.pointer (some ⟨a,0,none⟩)] 97)) (cs:= #[J now]) (t:=3) (k:=0) rfl;rwa [iI,iI]at this
 rw[hw3];clear hw3;have r3:=r.below b3;have hlt:=r.lt;have hnot:∀k,w.heap.size<=k->¬xE a m ao k:=fun k hk h=>by have:=hlt k h;omega
 have⟨i0,hi0,hz0,hz1,hz2⟩:=fA Tryz.Vb;refine ace (σ:=List Int×World) (F:=Fence.wide) rfl aT (gf:=266) rfl trivial (enters_of func266 aF rfl) (fun x:Int=> #[J x]) (fun _=>rfl)
  (fun s _ W=>s.1.length<L.length/\aH (fun k=>k=w.heap.size\/w3.heap.size<=k) s.2 W/\∃v,Col w.heap.size w3.heap.size v s.1 W)
  (fun s x W=>aH (fun k=>k=w.heap.size\/w3.heap.size<=k) s.2 W/\∃v,Col w.heap.size w3.heap.size v (s.1++ [x]) W)
  (fun _ _ _ _=>False)
  (fun W=>(∃v,Col w.heap.size w3.heap.size v ((vT now L).map En.id) W)/\r_ 198 239 W a m ao (mR now L)/\aH (xE a m ao) w W)
  (fun _ _=>False)
  (fun s W W' row h hg hr=>⟨h.1,aaC _ _ (fun k hk=>.inr hk) (fun s:List Int×World=>s.2) s.1 W W' row h.2.1 hg hr,h.2.2.elim fun v hv=>⟨v,Col.own _ _ (v,s.1.1) W W' row hv hg hr⟩⟩)
  (fun s W W' row h hg hr=>⟨aaC _ _ (fun k hk=>.inr hk) (fun s:List Int×World=>s.2) s.1 W W' row h.1 hg hr,h.2.elim fun v hv=>⟨v,Col.own _ _ (v,s.1.1++ [s.2]) W W' row hv hg hr⟩⟩)
  (fun _ _ _ _ _ h _ _=>h)
  (fun s W W' row h hg hr=>⟨h.1.elim fun v hv=>⟨v,Col.own _ _ (v,_) W W' row hv hg hr⟩,aaD (fun k hk=>by have:=hlt k hk;omega) _ () W W' row h.2.1 hg hr,h.2.2.trans (K':=fun k=>w3.heap.size<=k) (aH.uP hg (fun k e=>.inl (hr k e).1)) (fun k hk e=>by omega)⟩)
  (fun _ _ _ _ _ h _ _=>h)
  (fun x=>{tmps:= #[.pointer (some ⟨a,0,none⟩),J now,undef,undef,.slice none 0 0,.pointer (some ⟨w.heap.size,0,none⟩),J x,.pointer (some ⟨a,0,none⟩),J now,.func (.func 266) #[] #[.pointer (some ⟨w.heap.size+1,0,none⟩),.pointer (some ⟨w.heap.size+1+1,0,none⟩)],J x,undef,undef,undef,undef,undef],defers:= []}) ?assign ?body ?it ?done ?stop
 case assign=>
  intro l x W K hK;gi_wp2
  exact hK
 case body=>
  clear sz;rintro l ⟨pre,W0⟩ x W hY;obtain⟨hl,hc,v,hv⟩:pre.length<L.length/\aH (fun k=>k=w.heap.size\/w3.heap.size<=k) W0 W/\∃v,Col w.heap.size w3.heap.size v pre W:=hY;have e0:=hv.cell;have f0:=hv.frozen;have hhi:=hv.hi;have hrow:=hv.row
  gi_wp2_with (first
   | (gi_at_builtin;refine wpListIn_append_own _ rfl _ _ 36 rfl w3.heap.size 3 i0 (J 0) 1 8 underlying36 hi0 hz0 hz1 hz2 rfl aT _ _ _ rfl (hrow.alloc _) ⟨W.heap.size,0,none⟩ 1 1 [J x] rfl rfl (Co _ _ _) Ci (bM (m:=35184372088832) ak aT) ak fE ?_;intro v' w1 hown' hgrow _;have⟨mK,hk,az3,d0,g0⟩:=hv.app hown' hgrow;obtain⟨g',cap',rfl⟩:=ownsRow_succ hown'))
  exact⟨hk,hc.trans az3 (fun _ _ h=>h),_,mK⟩
 case it=>
  intro R Rx hR _ hrnd W hbW oz hRW;have ahJ:=b3.trans (hbW.mono ak);have y0:=(hbW.block _ ak).trans x0;have hcell:∀p v,w3.cell? p=some v->W.cell? p=some v:=fun p v h=>(aH.of_below hbW (fun _=>False)).cell h (fun h=>h);refine(al8 (n:=3 - 1) (l:=w3.heap.size+1) (b1:=w.heap.size+1) (b2:=w.heap.size+1+1) (a:=a) (m:=m) (ao:=ao) (now:=now) (N:=fun k=>k=w.heap.size\/w3.heap.size<=k) (T:=fun pre W=>(∃v,Col w.heap.size w3.heap.size v pre W)/\R W) aT ?_ L ?_ ?_ (hnot _ ak) (hnot _ ak) W (hcell _ _ x1) (hcell _ _ x2) (r3.below hbW) ⟨⟨_,y0,l8 _ _ _ _,by omega,by omega⟩,hRW⟩).mono ?_
  ·rintro pre A B ⟨⟨v,hv⟩,hr⟩ hc;exact⟨⟨v,hv.kept hc (hnot _ (aC _)) (fun k hk=>hnot k (by have:=(hv.row.lt k hk).1;omega))⟩,hR A B hr (KeepsFrom.K4 hc (fun k hk=>by have:=hlt k hk;omega))⟩
  ·rintro pre x W1 hl ⟨mK,hr⟩;have⟨fn,tmps,assign,body,hy,hRd⟩:=hrnd (pre,W1) x W1 ⟨hl,aH.refl _ _,mK⟩ hr;refine⟨fn,tmps,assign,body,hy,hRd.mono ?_⟩;rintro e W' (⟨rfl,⟨hc,hi⟩,hr'⟩ | ⟨_,c,hf,_⟩)
   ·exact ⟨rfl,⟨hi,hr'⟩,hc⟩
   ·exact hf.elim
  ·rintro k (rfl | hk)
   ·exact ⟨hnot _ (aC _),by omega,by omega⟩
   ·exact ⟨hnot _ ak,by omega,by omega⟩
  ·rintro e W' ⟨hv,⟨mK,hr⟩,hA,hC⟩;refine⟨hv,.inl ⟨⟨mK,hA,?_⟩,hr⟩⟩;exact(aH.of_below ahJ _).trans hC (fun k hk h=>by
    rcases h with h | h | h
    ·exact h
    ·omega
    ·omega)
 case done=>
  rintro D W hD ⟨⟨v,hv⟩,hA,hC⟩ hK;have e0:=hv.cell;gi_wp2
  refine⟨by simp,.inl ⟨_,_,rfl,Fw hK,?_⟩⟩;refine⟨_,results_tmp rfl _ _ _,v,rfl,?_,?_,?_⟩
  ·have h1:=Col.own _ _ (v,_) W _ (some D) hv (xK W D (.deferred none)) (fun k e=>by cases e;exact⟨hD,_,hK,rfl⟩)
   have h2:=h1.row;rw[dL]at h2;exact iL h2 ak
  ·exact aaD (B:=w3.heap.size) (fun k hk=>by have:=hlt k hk;omega) _ () W _ (some D) hA (xK W D (.deferred none)) (fun k e=>by cases e;exact⟨hD,_,hK,rfl⟩)
  ·exact hC.trans (K':=fun k=>w3.heap.size<=k) (aH.uP (xK W D (.deferred none)) (fun k e=>by cases e;exact .inl hD)) (fun k hk e=>by omega)
 case stop=>rintro D c W _ h _;exact h.elim
end A3
end Go.Proofs.YtdhifkbbjlhcaaaGreatDoor

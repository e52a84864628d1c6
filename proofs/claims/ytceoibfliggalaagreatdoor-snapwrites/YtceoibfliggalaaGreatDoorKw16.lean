/-
  TEXTS: LuB, LuC.
-/
import Derived.Test.YtceoibfliggalaaGreatDoorKw13
import Derived.Maps.AppendAt
import Derived.Laws.AppendOwnNone
import Derived.Deep.Onto
namespace Go.Proofs.YtceoibfliggalaaGreatDoor
open Go.RowKit Wd Tr Cg Lg
theorem wpList_append_mv {P:Program} {w:World} {ops:Array Oper} {rest:List Oper} {o:Oper} {a:Act} {Q:Exit→Act→World→Prop} (hgd:o.guard=none) (s x:Operand) (t:TypeId)
  (ho:o.op=.call {callee:=.builtin .append,args:= #[s,x],argTypes:= #[t,t]})
  (base:Nat) (e:TypeId) (i:TypeInfo) (z:Value) (size bytes:Nat) (ht:P.underlying t=some (.slice e)) (hi:P.info? e=some i) (hz:i.zero=some z)
  (hsize:i.size=size) (hby:i.bytes=bytes) (hzs:z.cells.size=size) (hsz:0<size)
  (v:Value) (n:Nat) (xs:List Value) (hs:a.eval s=v) (hown:w.ownsRow base e size v n xs)
  (ao:Option Addr) (m c:Nat) (news:List Value) (hx:a.eval x=.slice ao m c) (hnil:ao=none→m=0∧c=0) (hl:news.length=m*size) (hnews:∀ad,ao=some ad→∀j u,news[j]?=some u→w.cell? (ad.add j)=some u) (h1:∀u∈news,u.oneCell'=true)
  (h63:n+m≤maxLen) (hbytes:(n+m)*bytes≤140737488355328) (hbase:base≤w.heap.size)
  (h:∀v' w',w'.ownsRow base e size v' (n+m) (xs++news)→w.grownBy w' v.ownBlock→(v'.ownBlock=v.ownBlock∨v'.ownBlock=some w.heap.size)→wpList P ops Q rest (a.put o.dst v') w'):
  wpList P ops Q (o::rest) a w:=by
 cases ao with
 | none=>
  obtain⟨rfl,rfl⟩:=hnil rfl
  have hn0:news= []:=List.length_eq_zero_iff.1 (by rw [hl];omega)
  subst hn0
  exact wpList_append_own_none hgd s x t ho base e i size ht hi v n xs hs hown hx (h v w (by simpa using hown) ⟨rfl,rfl,rfl,Nat.le_refl _,fun _ _ _=>rfl⟩ (.inl rfl))
 | some ad=>exact wpList_append_own_at _ hgd s x t ho base e i z size bytes ht hi hz hsize hby hzs hsz v n xs hs hown ad m c news hx hl (hnews ad rfl) h1 h63 hbytes hbase (fun v' w' g1 g2 _ g4=>h v' w' g1 g2 g4)
theorem own_val {W:World} {B e sz n:Nat} {v:Value} {vs:List Value} (h:W.ownsRow B e sz v n vs):∃ao cap,v=.slice ao n cap∧n≤cap∧(ao=none→n=0∧cap=0)∧∀a,ao=some a→∃g,a=⟨g,0,none⟩∧B≤g∧g<W.heap.size:=by
 rcases h.2 with⟨h1,h0⟩ | ⟨b,cap,cur,h1,hb,h2,h3,_⟩
 ·subst h0
  exact⟨none,0,h1,Nat.le_refl _,fun _=>⟨rfl,rfl⟩,fun a e=>by cases e⟩
 ·exact ⟨_,cap,h1,h3,(fun e=>by cases e),fun a e=>by cases e;exact⟨b,rfl,hb,(Array.getElem?_eq_some_iff.1 h2).1⟩⟩
theorem own_nil (W:World) (B e sz:Nat):W.ownsRow B e sz (.slice none 0 0) 0 []:=⟨by simp,.inl ⟨rfl,rfl⟩⟩
theorem row_stand {W W':World} {B e sz n:Nat} {v:Value} {vs:List Value} (h:W.ownsRow B e sz v n vs) (hb:∀g,v.ownBlock=some g→W'.heap[g]?=W.heap[g]?):W'.ownsRow B e sz v n vs:=by
 refine⟨h.1,?_⟩
 rcases h.2 with h1 | ⟨g,cap,cur,h1,h2,h3,h4⟩
 ·exact .inl h1
 ·exact .inr ⟨g,cap,cur,h1,h2,(hb g (by rw [h1];rfl)).trans h3,h4⟩
def i64s (l:List Int):List Value:=l.map (Value.int .i64)
theorem i64s_len (l:List Int):(i64s l).length=l.length*1:=by simp [i64s]
theorem i64s_one (l:List Int):∀u∈i64s l,u.oneCell'=true:=by
 intro u hu
 obtain⟨x,_,rfl⟩:=List.mem_map.1 hu
 rfl
theorem ints_flat {W:World} {ao:Option Addr} {l:List Int} (h:IntsAt W ao l):∀ad,ao=some ad→∀j u,(i64s l)[j]?=some u→W.cell? (ad.add j)=some u:=by
 intro ad had j u hu
 obtain⟨g,o,h1,h2⟩:=h
 unfold i64s at hu
 rw [List.getElem?_map]at hu
 cases hx:l[j]? with
 | none=>rw [hx]at hu;cases hu
 | some x=>
  rw [hx]at hu
  cases hu
  have hp:0<l.length:=by have:=(List.getElem?_eq_some_iff.1 hx).1;omega
  rw [h1 hp]at had
  cases had
  have:=h2 j x hx
  rwa [Addr.add_lit]
theorem ints_own {W:World} {B:Nat} {ao:Option Addr} {l:List Int} {cap:Nat} (h:W.ownsRow B 3 1 (.slice ao l.length cap) l.length (i64s l)):IntsAt W ao l:=by
 obtain⟨ao',cap',e,_,h0,h1⟩:=own_val h
 cases e
 cases ao with
 | none=>exact⟨0,0,fun hp=>by have:=(h0 rfl).1;omega,fun k n hn=>by have:=(List.getElem?_eq_some_iff.1 hn).1;have:=(h0 rfl).1;omega⟩
 | some a=>
  obtain⟨g,rfl,_,_⟩:=h1 a rfl
  refine⟨g,0,fun _=>rfl,fun k n hn=>?_⟩
  have:=h.cells (g:=g) rfl k (.int .i64 n) (by unfold i64s;rw [List.getElem?_map,hn];rfl)
  rwa [Addr.add_lit]at this
def flatJ:List Pj→List Value
 | []=> []
 | p::l=>.int .i64 p.v.ac::.int .i64 p.v.nd::.int .i64 p.v.lm::.int .i64 p.v.sb::.int .i64 p.v.st::.int .i64 p.v.sr::.int .i64 p.v.en::.slice p.sa p.v.set.length p.sc::flatJ l
theorem flatJ_len (l:List Pj):(flatJ l).length=l.length*8:=by
 induction l with
 | nil=>rfl
 | cons s l ih=>simp [flatJ,ih];omega
theorem flatJ_app (a b:List Pj):flatJ (a++b)=flatJ a++flatJ b:=by
 induction a with
 | nil=>rfl
 | cons s l ih=>simp [flatJ,ih]
theorem flatJ_one (l:List Pj):∀u∈flatJ l,u.oneCell'=true:=by
 induction l with
 | nil=>intro u h;cases h
 | cons r l ih=>
  intro u h
  simp only [flatJ,List.mem_cons]at h
  rcases h with rfl | rfl | rfl | rfl | rfl | rfl | rfl | rfl | h
  ·rfl
  ·rfl
  ·rfl
  ·rfl
  ·rfl
  ·rfl
  ·rfl
  ·rfl
  ·exact ih u h
theorem flatJ_at (l:List Pj):∀j p,l[j]?=some p→(flatJ l)[j*8]?=some (.int .i64 p.v.ac)∧(flatJ l)[j*8+1]?=some (.int .i64 p.v.nd)∧(flatJ l)[j*8+2]?=some (.int .i64 p.v.lm)∧(flatJ l)[j*8+3]?=some (.int .i64 p.v.sb)∧(flatJ l)[j*8+4]?=some (.int .i64 p.v.st)∧(flatJ l)[j*8+5]?=some (.int .i64 p.v.sr)∧(flatJ l)[j*8+6]?=some (.int .i64 p.v.en)∧(flatJ l)[j*8+7]?=some (.slice p.sa p.v.set.length p.sc):=by
 induction l with
 | nil=>intro j s h;simp at h
 | cons x l ih=>
  intro j a h
  cases j with
  | zero=>simp at h;subst h;simp [flatJ]
  | succ j=>
   have:=ih j a (by simpa using h)
   simp only [flatJ]
   rw [show (j+1)*8=j*8+1+1+1+1+1+1+1+1 by omega]
   simpa using this
theorem jobs_own {W:World} {B:Nat} {jo:Option Addr} {l:List Pj} {cap:Nat} (h:W.ownsRow B 55 8 (.slice jo l.length cap) l.length (flatJ l)):JobsAt W jo (l.map Pj.jb):=by
 obtain⟨ao',cap',e,_,h0,h1⟩:=own_val h
 cases e
 cases jo with
 | none=>exact⟨0,0,fun hp=>by rw [List.length_map]at hp;have:=(h0 rfl).1;omega,fun k n hn=>by have:=(List.getElem?_eq_some_iff.1 hn).1;rw [List.length_map]at this;have:=(h0 rfl).1;omega⟩
 | some a=>
  obtain⟨g,rfl,_,_⟩:=h1 a rfl
  refine⟨g,0,fun _=>rfl,fun k j hj=>?_⟩
  rw [List.getElem?_map]at hj
  cases hp:l[k]? with
  | none=>rw [hp]at hj;cases hj
  | some p=>
   rw [hp]at hj
   cases hj
   obtain⟨e0,e1,e2,e3,e4,e5,e6,e7⟩:=flatJ_at l k p hp
   have hc:=fun j u (hu:(flatJ l)[j]?=some u)=>(show W.cell? ⟨g,0+j,none⟩=some u by have:=h.cells (g:=g) rfl j u hu;rwa [Addr.add_lit]at this)
   exact⟨hc _ _ e0,hc _ _ e1,hc _ _ e2,hc _ _ e3,hc _ _ e4,hc _ _ e5,hc _ _ e6,hc _ _ e7⟩
end Go.Proofs.YtceoibfliggalaaGreatDoor
namespace Go.Proofs.YtceoibfliggalaaGreatDoor
open Go.RowKit Wd Tr Cg Lg
theorem Tryz.infJob:(Tryz.prog.info? 55).map (fun i=>(i.zero,i.size,i.bytes))=some (some (.agg #[.int .i64 0,.int .i64 0,.int .i64 0,.int .i64 0,.int .i64 0,.int .i64 0,.int .i64 0,.slice none 0 0]),8,80):=by kernel_rfl
theorem Tryz.infInt17:(Tryz.prog.info? 3).map (fun i=>(i.zero,i.size,i.bytes))=some (some (.int .i64 0),1,8):=by kernel_rfl
end Go.Proofs.YtceoibfliggalaaGreatDoor

import Derived.Test.YtijjpoohhgapoaaGreatDoorVQAC
namespace Go.Proofs.YtijjpoohhgapoaaGreatDoor
open Go.RowKit
set_option linter.unusedVariables false
open Value renaming slice → A, string → C, int → F
open IntKind renaming i64 → D
open Nat renaming lt_irrefl → G
theorem gz {α:Type} (Q:Nat→α→Prop):∀l:Nat,(∀i,i<l→∃x,Q i x)→∃L:List α,L.length=l∧∀i x,L[i]? = some x→Q i x
 | 0,_=>⟨[],rfl,fun i x h=>by simp at h⟩
 | l+1,h=>by
   obtain⟨L,hl,hL⟩:=gz Q l (fun i hi=>h i (by omega))
   obtain⟨x,hx⟩:=h l (by omega)
   refine⟨L ++ [x],by simp[hl],fun i y hy=>?_⟩
   by_cases hi:i<L.length
   ·rw[List.getElem?_append_left hi] at hy
    exact hL i y hy
   ·rw[List.getElem?_append_right (by omega)] at hy
    have h2:=(List.getElem?_eq_some_iff.1 hy).1
    simp at h2
    have hil:i=l:=by omega
    subst hil
    rw[hl,Nat.sub_self] at hy
    simp at hy
    subst hy
    exact hx
def lm (w:World) (p:Pr):Prop:=(p.s.size≤9223372036854775807∧p.l≤p.c)∧∃L:List T,InT (.node p.k p.n p.s L)∧am w L p.a p.l∧iO w p.val 0 p.e∧(p.e=0→Ck 6 (.node p.k p.n p.s L))
theorem lm.below {w w':World} (k:Below w.heap.size w w') {p:Pr} (h:lm w p):lm w' p:=by
 obtain⟨h1,L,h2,h3,h4,h5⟩:=h
 exact⟨h1,L,h2,h3.below k,fun W hW=>h4 W (af k hW),h5⟩
section
variable {H:Type} {enc:TypeId × Value→H} {w:World} {base:Nat} {spare:Nat→Bool} {held:Bool}
theorem l6 {a:Addr} {k:Nat} {cs:List Value} (h:w.cells? base a k=some cs):cs.length=k∧∀j v,cs[j]? = some v→w.cell? (a.add j)=some v:=by
 unfold World.cells? at h
 split at h
 ·have hl:=mapM_some_length h
  refine⟨by simpa using hl,fun j v hv=>?_⟩
  have hj:j<k:=by
   have:=(List.getElem?_eq_some_iff.1 hv).1
   simp at hl
   omega
  have:=mapM_some_get h j j (by simp[hj])
  rw[hv] at this
  exact this
 ·cases h
theorem eG {t e:TypeId} {k fuel:Nat} {a:Option Addr} {l c:Nat} {y:DataW H × List MemPlace} (hu:Tryz.prog.underlying t=some (.slice e)) (hk:Tryz.prog.cellsOf e=k) (h0:0<k) (h:DataW.trod enc Tryz.prog w base spare held fuel t [A a l c]=some y) :
 l≤c∧l≤9223372036854775807∧(0<l→∃b off,a=some ⟨b,off,none⟩∧b<w.heap.size∧∀i,i<l→∃m cs z,cs.length=k∧(∀j v,cs[j]? = some v→w.cell? ⟨b,off+i*k+j,none⟩=some v)∧DataW.trod enc Tryz.prog w base spare held m e cs=some z):=by
 have hm:maxLen≤9223372036854775807:=by unfold maxLen;decide
 rcases DataW.trod_slice hu h with⟨e1,rfl⟩ | ⟨a',l',c',elems,rest,m,hfu,e1,rfl,_,h1,h2,hlen,hel,_⟩
 ·simp at e1
  obtain⟨_,rfl,rfl⟩:=e1
  exact⟨Nat.le_refl _,by omega,fun h=>absurd h (G _)⟩
 ·simp at e1
  obtain⟨rfl,rfl,rfl⟩:=e1
  refine⟨h1,by omega,fun hp=>?_⟩
  have one:∀i,i<l→∃cs z,cs.length=k∧(∀j v,cs[j]? = some v→w.cell? ((a'.add (i*k)).add j)=some v)∧DataW.trod enc Tryz.prog w base spare held m e cs=some z:=by
   intro i hi
   have hi2:=hel i hi
   obtain⟨z,hz⟩:∃z,elems[i]? = some z:=⟨elems[i],by simp[hlen,hi]⟩
   rw[hz,hk,Option.bind_eq_some_iff] at hi2
   obtain⟨cs,hcs,ht⟩:=hi2
   obtain⟨q1,q2⟩:=l6 hcs
   exact⟨cs,z,q1,q2,ht⟩
  obtain⟨b,off,sp⟩:=a'
  have hsp:sp=none∧b<w.heap.size:=by
   obtain⟨cs,z,q1,q2,_⟩:=one 0 hp
   have q0:=q2 0 cs[0] (by simp)
   rw[Nat.zero_mul,add_zero,add_zero] at q0
   exact iS q0
  obtain⟨rfl,hb⟩:=hsp
  refine⟨b,off,rfl,hb,fun i hi=>?_⟩
  obtain⟨cs,z,q1,q2,q3⟩:=one i hi
  refine⟨m,cs,z,q1,fun j v hv=>?_,q3⟩
  have:=q2 j v hv
  rw[d9,d9] at this
  exact this
theorem pX {fuel:Nat} {a:Option Addr} {l c:Nat} {y:DataW H × List MemPlace} (h:DataW.trod enc Tryz.prog w base spare held fuel 26 [A a l c]=some y):l≤c∧∃L,cD w L a l:=by
 have hm:maxLen≤9223372036854775807:=by unfold maxLen;decide
 obtain⟨h1,h2,h3⟩:=eG Tryz.underlying26 iI (by omega) h
 refine⟨h1,?_⟩
 by_cases h0:l=0
 ·subst h0
  exact⟨[],rfl,by omega,fun h=>absurd h (G _)⟩
 ·obtain⟨b,off,ha,hb,hall⟩:=h3 (by omega)
  obtain⟨L,hl,hL⟩:=gz (fun i (s:ByteArray)=>s.size≤9223372036854775807∧w.cell? ⟨b,off+i,none⟩=some (C s)) l (fun i hi=>by
   obtain⟨m,cs,z,q1,q2,q3⟩:=hall i hi
   obtain⟨s,e2,_,ws⟩:=DataW.trod_string Tryz.underlying9 q3
   subst e2
   have:=q2 0 _ rfl
   rw[Nat.mul_one,Nat.add_zero] at this
   exact⟨s,by omega,this⟩)
  exact⟨L,hl.symm,h2,fun _=>⟨b,off,ha,hb,hL⟩⟩
theorem qv:Tryz.prog.cellsOf 90=5:=by kernel_rfl
theorem qx:Tryz.prog.cellsOf 61=3:=by kernel_rfl
theorem qw:Tryz.prog.cellsOf 65=5:=by kernel_rfl
theorem tV:Tryz.prog.cellsOf 25=3:=by kernel_rfl
theorem qy:Tryz.prog.cellsOf 59=1:=by kernel_rfl
theorem tW:Tryz.prog.cellsOf 26=1:=by kernel_rfl
theorem tX:Tryz.prog.cellsOf 22=1:=by kernel_rfl
theorem t8:Tryz.prog.cellsOf 23=1:=by kernel_rfl
theorem v8 {cs:List Value} (h:cs.length=5):∃c0 c1 c2 c3 c4,cs = [c0,c1,c2,c3,c4]:=by
 match cs,h with
 | [c0,c1,c2,c3,c4],_=>exact⟨c0,c1,c2,c3,c4,rfl⟩
theorem v9 {cs:List Value} (h:cs.length=3):∃c0 c1 c2,cs = [c0,c1,c2]:=by
 match cs,h with
 | [c0,c1,c2],_=>exact⟨c0,c1,c2,rfl⟩
theorem dO {t e:TypeId} {fuel:Nat} {v:Value} {y:DataW H × List MemPlace} (hu:Tryz.prog.underlying t=some (.slice e)) (h:DataW.trod enc Tryz.prog w base spare held fuel t [v]=some y):∃a l c,v=A a l c:=by
 rcases DataW.trod_slice hu h with⟨e1,_⟩ | ⟨a',l',c',elems,rest,m,hfu,e1,_⟩
 ·simp at e1
  exact⟨none,0,0,e1⟩
 ·simp at e1
  exact⟨some a',l',c',e1⟩
theorem qO {fuel:Nat} {cs:List Value} {x:DataW H × List MemPlace} (h:DataW.trod enc Tryz.prog w base spare held fuel 90 cs=some x) :
 ∃name k n s a l c m y,cs = [C name,F D k,F D n,C s,A a l c]∧name.size≤maxLen∧(Lit.int .i64 k).wf=true∧(Lit.int .i64 n).wf=true∧s.size≤maxLen∧DataW.trod enc Tryz.prog w base spare held m 28 [A a l c]=some y:=by
 obtain⟨xs,m,rfl,rfl,hlen,hxs,hf⟩:=DataW.trod_struct Tryz.underlying90 h
 rw[qv] at hlen
 obtain⟨c0,c1,c2,c3,c4,rfl⟩:=v8 hlen
 have f0:DataW.trod enc Tryz.prog w base spare held m 9 (([c0,c1,c2,c3,c4].drop 0).take (Tryz.prog.cellsOf 9))=xs[0]?:=hf 0 _ rfl
 have f1:DataW.trod enc Tryz.prog w base spare held m 30 (([c0,c1,c2,c3,c4].drop 1).take (Tryz.prog.cellsOf 30))=xs[1]?:=hf 1 _ rfl
 have hx:xs.length=2:=hxs
 obtain⟨y0,hy0⟩:∃y,xs[0]? = some y:=⟨xs[0],by simp[hx]⟩
 obtain⟨y1,hy1⟩:∃y,xs[1]? = some y:=⟨xs[1],by simp[hx]⟩
 rw[hy0,iI] at f0
 rw[hy1,mO] at f1
 have g0:DataW.trod enc Tryz.prog w base spare held m 9 [c0]=some y0:=f0
 have g1:DataW.trod enc Tryz.prog w base spare held m 30 [c1,c2,c3,c4]=some y1:=f1
 obtain⟨name,e0,_,wn⟩:=DataW.trod_string Tryz.underlying9 g0
 obtain⟨k,n,s,a,l,c,m',y,e1,wk,wn',hs,_,hy⟩:=gX g1
 simp only[List.cons.injEq,and_true] at e0 e1
 obtain⟨rfl,rfl,rfl,rfl⟩:=e1
 subst e0
 exact⟨name,k,n,s,a,l,c,m',y,rfl,wn,wk,wn',hs,hy⟩
theorem nL (B:Nat) (hB:B≤w.heap.size) (hT:bD B w) {fuel:Nat} {a:Option Addr} {l c:Nat} {y:DataW H × List MemPlace} (h:DataW.trod enc Tryz.prog w base spare held fuel 59 [A a l c]=some y):l≤c∧∃P,aX w P a l∧∀p ∈ P,lm w p:=by
 have hm:maxLen≤9223372036854775807:=by unfold maxLen;decide
 obtain⟨h1,h2,h3⟩:=eG Tryz.underlying59 qv (by omega) h
 refine⟨h1,?_⟩
 by_cases h0:l=0
 ·subst h0
  exact⟨[],⟨rfl,by omega,fun h=>absurd h (G _)⟩,fun p hp=>by cases hp⟩
 ·obtain⟨b,off,ha,hb,hall⟩:=h3 (by omega)
  obtain⟨L,hl,hL⟩:=gz (fun i (p:Pr)=>(p.name.size≤9223372036854775807∧w.cell? ⟨b,off+i*5,none⟩=some (C p.name)∧w.cell? ⟨b,off+i*5+1,none⟩=some (F D p.k)∧w.cell? ⟨b,off+i*5+1+1,none⟩=some (F D p.n)∧w.cell? ⟨b,off+i*5+1+1+1,none⟩=some (C p.s)∧w.cell? ⟨b,off+i*5+1+1+1+1,none⟩=some (A p.a p.l p.c))∧lm w p) l (fun i hi=>by
   obtain⟨m,cs,z,q1,q2,q3⟩:=hall i hi
   obtain⟨name,k,n,s,a,l,c,m',y',rfl,hn,wk,wn,hs,hy⟩:=qO q3
   obtain⟨hlc,LL,hLL,hin⟩:=mc m' hy
   have hn1:-9223372036854775808≤n∧n≤9223372036854775807:=by simpa[Lit.wf,IntKind.min,IntKind.max,IntKind.signed,IntKind.bits] using wn
   have hT2:InT (.node k n s LL):=by
    unfold InT
    exact⟨hn1,hin⟩
   obtain⟨e,he,hck⟩:=vq B w hB hT 6 0 rfl k n s a l c LL (by omega) hT2 hLL
   exact⟨⟨name,k,n,s,a,l,c,e⟩,⟨by show name.size≤_;omega,q2 0 _ rfl,q2 1 _ rfl,q2 2 _ rfl,q2 3 _ rfl,q2 4 _ rfl⟩,⟨(by show s.size≤_;omega),hlc⟩,LL,hT2,hLL,he,hck⟩)
  refine⟨L,⟨hl.symm,h2,fun _=>⟨b,off,ha,hb,fun i p hp=>(hL i p hp).1⟩⟩,fun p hp=>?_⟩
  obtain⟨i,hi⟩:=List.getElem?_of_mem hp
  exact(hL i p hi).2
end
def vB (w:World) (x:Nd):Prop:=cD w x.labs x.la x.ll∧aX w x.props x.pa x.pl∧∀p ∈ x.props,lm w p
def vD (w:World) (x:Ed):Prop:=aX w x.props x.pa x.pl∧∀p ∈ x.props,lm w p
def iN (w:World) (N:List Nd) (E:List Ed) (na:Option Addr) (nl:Nat) (ea:Option Addr) (el:Nat):Prop:=bF w N na nl∧bO w E ea el∧(∀x ∈ N,vB w x)∧(∀x ∈ E,vD w x)
theorem iN.below {w w':World} (k:Below w.heap.size w w') {N:List Nd} {E:List Ed} {na:Option Addr} {nl:Nat} {ea:Option Addr} {el:Nat} (h:iN w N E na nl ea el):iN w' N E na nl ea el:=
 ⟨h.1.below k,h.2.1.below k,fun x hx=>⟨(h.2.2.1 x hx).1.below k,(h.2.2.1 x hx).2.1.below k,fun p hp=>((h.2.2.1 x hx).2.2 p hp).below k⟩,fun x hx=>⟨(h.2.2.2 x hx).1.below k,fun p hp=>((h.2.2.2 x hx).2 p hp).below k⟩⟩
section
variable {H:Type} {enc:TypeId × Value→H} {w:World} {base:Nat} {spare:Nat→Bool} {held:Bool}
theorem qP {fuel:Nat} {cs:List Value} {x:DataW H × List MemPlace} (h:DataW.trod enc Tryz.prog w base spare held fuel 61 cs=some x) :
 ∃id la ll lc pa pl pc m y1 y2,cs = [F D id,A la ll lc,A pa pl pc]∧DataW.trod enc Tryz.prog w base spare held m 26 [A la ll lc]=some y1∧DataW.trod enc Tryz.prog w base spare held m 59 [A pa pl pc]=some y2:=by
 obtain⟨xs,m,rfl,rfl,hlen,hxs,hf⟩:=DataW.trod_struct Tryz.underlying61 h
 rw[qx] at hlen
 obtain⟨c0,c1,c2,rfl⟩:=v9 hlen
 have f0:DataW.trod enc Tryz.prog w base spare held m 3 (([c0,c1,c2].drop 0).take (Tryz.prog.cellsOf 3))=xs[0]?:=hf 0 _ rfl
 have f1:DataW.trod enc Tryz.prog w base spare held m 26 (([c0,c1,c2].drop 1).take (Tryz.prog.cellsOf 26))=xs[1]?:=hf 1 _ rfl
 have f2:DataW.trod enc Tryz.prog w base spare held m 59 (([c0,c1,c2].drop 2).take (Tryz.prog.cellsOf 59))=xs[2]?:=hf 2 _ rfl
 have hx:xs.length=3:=hxs
 obtain⟨y0,hy0⟩:∃y,xs[0]? = some y:=⟨xs[0],by simp[hx]⟩
 obtain⟨y1,hy1⟩:∃y,xs[1]? = some y:=⟨xs[1],by simp[hx]⟩
 obtain⟨y2,hy2⟩:∃y,xs[2]? = some y:=⟨xs[2],by simp[hx]⟩
 rw[hy0,eR] at f0
 rw[hy1,tW] at f1
 rw[hy2,qy] at f2
 have g0:DataW.trod enc Tryz.prog w base spare held m 3 [c0]=some y0:=f0
 have g1:DataW.trod enc Tryz.prog w base spare held m 26 [c1]=some y1:=f1
 have g2:DataW.trod enc Tryz.prog w base spare held m 59 [c2]=some y2:=f2
 obtain⟨id,e0,_,_⟩:=DataW.trod_int Tryz.underlying3 g0
 obtain⟨la,ll,lc,rfl⟩:=dO Tryz.underlying26 g1
 obtain⟨pa,pl,pc,rfl⟩:=dO Tryz.underlying59 g2
 simp only[List.cons.injEq,and_true] at e0
 subst e0
 exact⟨id,la,ll,lc,pa,pl,pc,m,y1,y2,rfl,g1,g2⟩
theorem qQ {fuel:Nat} {cs:List Value} {x:DataW H × List MemPlace} (h:DataW.trod enc Tryz.prog w base spare held fuel 65 cs=some x) :
 ∃id frm dst typ pa pl pc m y,cs = [F D id,F D frm,F D dst,C typ,A pa pl pc]∧typ.size≤maxLen∧DataW.trod enc Tryz.prog w base spare held m 59 [A pa pl pc]=some y:=by
 obtain⟨xs,m,rfl,rfl,hlen,hxs,hf⟩:=DataW.trod_struct Tryz.underlying65 h
 rw[qw] at hlen
 obtain⟨c0,c1,c2,c3,c4,rfl⟩:=v8 hlen
 have f0:DataW.trod enc Tryz.prog w base spare held m 3 (([c0,c1,c2,c3,c4].drop 0).take (Tryz.prog.cellsOf 3))=xs[0]?:=hf 0 _ rfl
 have f1:DataW.trod enc Tryz.prog w base spare held m 3 (([c0,c1,c2,c3,c4].drop 1).take (Tryz.prog.cellsOf 3))=xs[1]?:=hf 1 _ rfl
 have f2:DataW.trod enc Tryz.prog w base spare held m 3 (([c0,c1,c2,c3,c4].drop 2).take (Tryz.prog.cellsOf 3))=xs[2]?:=hf 2 _ rfl
 have f3:DataW.trod enc Tryz.prog w base spare held m 9 (([c0,c1,c2,c3,c4].drop 3).take (Tryz.prog.cellsOf 9))=xs[3]?:=hf 3 _ rfl
 have f4:DataW.trod enc Tryz.prog w base spare held m 59 (([c0,c1,c2,c3,c4].drop 4).take (Tryz.prog.cellsOf 59))=xs[4]?:=hf 4 _ rfl
 have hx:xs.length=5:=hxs
 obtain⟨y0,hy0⟩:∃y,xs[0]? = some y:=⟨xs[0],by simp[hx]⟩
 obtain⟨y1,hy1⟩:∃y,xs[1]? = some y:=⟨xs[1],by simp[hx]⟩
 obtain⟨y2,hy2⟩:∃y,xs[2]? = some y:=⟨xs[2],by simp[hx]⟩
 obtain⟨y3,hy3⟩:∃y,xs[3]? = some y:=⟨xs[3],by simp[hx]⟩
 obtain⟨y4,hy4⟩:∃y,xs[4]? = some y:=⟨xs[4],by simp[hx]⟩
 rw[hy0,eR] at f0
 rw[hy1,eR] at f1
 rw[hy2,eR] at f2
 rw[hy3,iI] at f3
 rw[hy4,qy] at f4
 have g0:DataW.trod enc Tryz.prog w base spare held m 3 [c0]=some y0:=f0
 have g1:DataW.trod enc Tryz.prog w base spare held m 3 [c1]=some y1:=f1
 have g2:DataW.trod enc Tryz.prog w base spare held m 3 [c2]=some y2:=f2
 have g3:DataW.trod enc Tryz.prog w base spare held m 9 [c3]=some y3:=f3
 have g4:DataW.trod enc Tryz.prog w base spare held m 59 [c4]=some y4:=f4
 obtain⟨id,e0,_,_⟩:=DataW.trod_int Tryz.underlying3 g0
 obtain⟨frm,e1,_,_⟩:=DataW.trod_int Tryz.underlying3 g1
 obtain⟨dst,e2,_,_⟩:=DataW.trod_int Tryz.underlying3 g2
 obtain⟨typ,e3,_,ws⟩:=DataW.trod_string Tryz.underlying9 g3
 obtain⟨pa,pl,pc,rfl⟩:=dO Tryz.underlying59 g4
 simp only[List.cons.injEq,and_true] at e0 e1 e2 e3
 subst e0 e1 e2 e3
 exact⟨id,frm,dst,typ,pa,pl,pc,m,y4,rfl,ws,g4⟩
theorem se (B:Nat) (hB:B≤w.heap.size) (hT:bD B w) {fuel:Nat} {a:Option Addr} {l c:Nat} {y:DataW H × List MemPlace} (h:DataW.trod enc Tryz.prog w base spare held fuel 22 [A a l c]=some y):∃N,bF w N a l∧∀x ∈ N,vB w x:=by
 obtain⟨h1,h2,h3⟩:=eG Tryz.underlying22 qx (by omega) h
 by_cases h0:l=0
 ·subst h0
  exact⟨[],⟨rfl,by omega,fun h=>absurd h (G _)⟩,fun p hp=>by cases hp⟩
 ·obtain⟨b,off,ha,hb,hall⟩:=h3 (by omega)
  obtain⟨L,hl,hL⟩:=gz (fun i (x:Nd)=>(w.cell? ⟨b,off+i*3,none⟩=some (F D x.id)∧w.cell? ⟨b,off+i*3+1,none⟩=some (A x.la x.ll x.lc)∧w.cell? ⟨b,off+i*3+1+1,none⟩=some (A x.pa x.pl x.pc))∧vB w x) l (fun i hi=>by
   obtain⟨m,cs,z,q1,q2,q3⟩:=hall i hi
   obtain⟨id,la,ll,lc,pa,pl,pc,m',y1,y2,rfl,g1,g2⟩:=qP q3
   obtain⟨_,LL,hLL⟩:=pX g1
   obtain⟨_,P,hP,hO⟩:=nL B hB hT g2
   exact⟨⟨id,LL,la,ll,lc,P,pa,pl,pc⟩,⟨q2 0 _ rfl,q2 1 _ rfl,q2 2 _ rfl⟩,hLL,hP,hO⟩)
  refine⟨L,⟨hl.symm,h2,fun _=>⟨b,off,ha,hb,fun i p hp=>(hL i p hp).1⟩⟩,fun p hp=>?_⟩
  obtain⟨i,hi⟩:=List.getElem?_of_mem hp
  exact(hL i p hi).2
theorem sM (B:Nat) (hB:B≤w.heap.size) (hT:bD B w) {fuel:Nat} {a:Option Addr} {l c:Nat} {y:DataW H × List MemPlace} (h:DataW.trod enc Tryz.prog w base spare held fuel 23 [A a l c]=some y):∃E,bO w E a l∧∀x ∈ E,vD w x:=by
 have hm:maxLen≤9223372036854775807:=by unfold maxLen;decide
 obtain⟨h1,h2,h3⟩:=eG Tryz.underlying23 qw (by omega) h
 by_cases h0:l=0
 ·subst h0
  exact⟨[],⟨rfl,by omega,fun h=>absurd h (G _)⟩,fun p hp=>by cases hp⟩
 ·obtain⟨b,off,ha,hb,hall⟩:=h3 (by omega)
  obtain⟨L,hl,hL⟩:=gz (fun i (x:Ed)=>(x.typ.size≤9223372036854775807∧w.cell? ⟨b,off+i*5,none⟩=some (F D x.id)∧w.cell? ⟨b,off+i*5+1,none⟩=some (F D x.frm)∧w.cell? ⟨b,off+i*5+1+1,none⟩=some (F D x.dst)∧w.cell? ⟨b,off+i*5+1+1+1,none⟩=some (C x.typ)∧w.cell? ⟨b,off+i*5+1+1+1+1,none⟩=some (A x.pa x.pl x.pc))∧vD w x) l (fun i hi=>by
   obtain⟨m,cs,z,q1,q2,q3⟩:=hall i hi
   obtain⟨id,frm,dst,typ,pa,pl,pc,m',y2,rfl,ht,g2⟩:=qQ q3
   obtain⟨_,P,hP,hO⟩:=nL B hB hT g2
   exact⟨⟨id,frm,dst,typ,P,pa,pl,pc⟩,⟨by show typ.size≤_;omega,q2 0 _ rfl,q2 1 _ rfl,q2 2 _ rfl,q2 3 _ rfl,q2 4 _ rfl⟩,hP,hO⟩)
  refine⟨L,⟨hl.symm,h2,fun _=>⟨b,off,ha,hb,fun i p hp=>(hL i p hp).1⟩⟩,fun p hp=>?_⟩
  obtain⟨i,hi⟩:=List.getElem?_of_mem hp
  exact(hL i p hi).2
theorem sF (B:Nat) (hB:B≤w.heap.size) (hT:bD B w) {fuel:Nat} {cs:List Value} {x:DataW H × List MemPlace} (h:DataW.trod enc Tryz.prog w base spare held fuel 25 cs=some x) :
 ∃na nl nc ea el ec nx,cs = [A na nl nc,A ea el ec,F D nx]∧(Lit.int .i64 nx).wf=true∧∃N E,iN w N E na nl ea el:=by
 obtain⟨xs,m,rfl,rfl,hlen,hxs,hf⟩:=DataW.trod_struct Tryz.underlying25 h
 rw[tV] at hlen
 obtain⟨c0,c1,c2,rfl⟩:=v9 hlen
 have f0:DataW.trod enc Tryz.prog w base spare held m 22 (([c0,c1,c2].drop 0).take (Tryz.prog.cellsOf 22))=xs[0]?:=hf 0 _ rfl
 have f1:DataW.trod enc Tryz.prog w base spare held m 23 (([c0,c1,c2].drop 1).take (Tryz.prog.cellsOf 23))=xs[1]?:=hf 1 _ rfl
 have f2:DataW.trod enc Tryz.prog w base spare held m 3 (([c0,c1,c2].drop 2).take (Tryz.prog.cellsOf 3))=xs[2]?:=hf 2 _ rfl
 have hx:xs.length=3:=hxs
 obtain⟨y0,hy0⟩:∃y,xs[0]? = some y:=⟨xs[0],by simp[hx]⟩
 obtain⟨y1,hy1⟩:∃y,xs[1]? = some y:=⟨xs[1],by simp[hx]⟩
 obtain⟨y2,hy2⟩:∃y,xs[2]? = some y:=⟨xs[2],by simp[hx]⟩
 rw[hy0,tX] at f0
 rw[hy1,t8] at f1
 rw[hy2,eR] at f2
 have g0:DataW.trod enc Tryz.prog w base spare held m 22 [c0]=some y0:=f0
 have g1:DataW.trod enc Tryz.prog w base spare held m 23 [c1]=some y1:=f1
 have g2:DataW.trod enc Tryz.prog w base spare held m 3 [c2]=some y2:=f2
 obtain⟨nx,e2,_,wx⟩:=DataW.trod_int Tryz.underlying3 g2
 obtain⟨na,nl,nc,rfl⟩:=dO Tryz.underlying22 g0
 obtain⟨ea,el,ec,rfl⟩:=dO Tryz.underlying23 g1
 simp only[List.cons.injEq,and_true] at e2
 subst e2
 obtain⟨N,hN,hN2⟩:=se B hB hT g0
 obtain⟨E,hE,hE2⟩:=sM B hB hT g1
 exact⟨na,nl,nc,ea,el,ec,nx,rfl,wx,N,E,hN,hE,hN2,hE2⟩
end
end Go.Proofs.YtijjpoohhgapoaaGreatDoor

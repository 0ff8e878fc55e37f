import Derived.Test.YtijjpoohhgapoaaGreatDoorVQAE
import Derived.Test.YtijjpoohhgapoaaGreatDoorVQAF
import Derived.Test.YtijjpoohhgapoaaGreatDoorVQAD
namespace Go.Proofs.YtijjpoohhgapoaaGreatDoor
open Go.RowKit
set_option linter.unusedVariables false
set_option maxHeartbeats 4000000
set_option maxRecDepth 100000
open Value renaming slice → D, string → G, int → H, agg → O, slice → Q
open IntKind renaming i64 → F
open Nat renaming le_refl → I
open Obj renaming cells → J
open Ending renaming returned → K
open RowKit.Below renaming refl → M
structure AP where
 name:ByteArray
 t:T
structure AN where
 id:Int
 labs:List ByteArray
 props:List AP
structure AE where
 id:Int
 frm:Int
 dst:Int
 typ:ByteArray
 props:List AP
def aA {α β:Type} (R:α→β→Prop) (P:List α) (L:List β):Prop:=P.length=L.length∧∀(i:Nat) p x,P[i]? = some p→L[i]? = some x→R p x
theorem aA.nil {α β:Type} {R:α→β→Prop}:aA R [] []:=⟨rfl,fun i p x h=>by simp at h⟩
theorem aA.mono {α β:Type} {R R':α→β→Prop} {P:List α} {L:List β} (h:aA R P L) (m:∀p x,p ∈ P→x ∈ L→R p x→R' p x):aA R' P L:=
 ⟨h.1,fun i p x hp hx=>m p x (List.mem_of_getElem? hp) (List.mem_of_getElem? hx) (h.2 i p x hp hx)⟩
theorem aA.snoc {α β:Type} {R:α→β→Prop} {P:List α} {L:List β} (h:aA R P L) {p:α} {x:β} (hR:R p x):aA R (P ++ [p]) (L ++ [x]):=by
 refine⟨by simp[h.1],fun i q y hq hy=>?_⟩
 rcases Nat.lt_or_ge i P.length with hi | hi
 ·rw[List.getElem?_append_left hi] at hq
  rw[List.getElem?_append_left (by rw[←h.1];exact hi)] at hy
  exact h.2 i q y hq hy
 ·rw[List.getElem?_append_right hi] at hq
  rw[List.getElem?_append_right (by rw[←h.1];exact hi),←h.1] at hy
  cases hk:i-P.length with
  | zero=>
    rw[hk] at hq hy
    simp at hq hy
    rw[←hq,←hy]
    exact hR
  | succ k=>rw[hk] at hq;simp at hq
theorem aA.right {α β:Type} {R:α→β→Prop} {P:List α} {L:List β} (h:aA R P L) {i:Nat} {x:β} (hx:L[i]? = some x):∃p,P[i]? = some p∧R p x:=by
 have hi:i<P.length:=by rw[h.1];exact(List.getElem?_eq_some_iff.1 hx).1
 exact⟨P[i],List.getElem?_eq_getElem hi,h.2 i _ _ (List.getElem?_eq_getElem hi) hx⟩
theorem aA.left {α β:Type} {R:α→β→Prop} {P:List α} {L:List β} (h:aA R P L) {i:Nat} {p:α} (hp:P[i]? = some p):∃x,L[i]? = some x∧R p x:=by
 have hi:i<L.length:=by rw[←h.1];exact(List.getElem?_eq_some_iff.1 hp).1
 exact⟨L[i],List.getElem?_eq_getElem hi,h.2 i _ _ hp (List.getElem?_eq_getElem hi)⟩
theorem eQ {α β:Type} {R:α→β→Prop}:∀(P:List α),(∀p ∈ P,∃x,R p x)→∃L,aA R P L
 | [],_=>⟨[],aA.nil⟩
 | p::P,h=>by
   obtain⟨x,hx⟩:=h p (List.mem_cons_self ..)
   obtain⟨L,hL⟩:=eQ P (fun q hq=>h q (List.mem_cons_of_mem _ hq))
   refine⟨x::L,by simp[hL.1],fun i q y hq hy=>?_⟩
   cases i with
   | zero=>
     simp at hq hy
     rw[←hq,←hy]
     exact hx
   | succ i=>exact hL.2 i q y (by simpa using hq) (by simpa using hy)
def fI:Nat→Prop:=fun _=>True
mutual
theorem bY.lie {w:World}:∀(t:T) (b off:Nat),bY w t b off→fE fI w t b off
 | .node k n s L,b,off,h=>by
   unfold bY at h
   unfold fE
   obtain⟨hs,a,l,c,h0,h1,h2,h3,h4,hL⟩:=h
   exact⟨hs,a,l,c,h0,h1,h2,h3,h4,am.lie L a l hL⟩
theorem am.lie {w:World}:∀(L:List T) (a:Option Addr) (l:Nat),am w L a l→ap fI w L a l
 | [],_,_,h=>by unfold am at h;unfold ap;exact h
 | t::ts,a,l,h=>by
   unfold am at h
   unfold ap
   obtain⟨b,off,h1,h2,h3,h4,h5,h6⟩:=h
   exact⟨b,off,h1,h2,h3,trivial,h4,bY.lie t b off h5,am.lie ts _ _ h6⟩
end
def fP (A A':Nat→Prop) (w w':World):Prop:=w.heap.size≤w'.heap.size∧∀i,A i→i<w.heap.size→A' i∧w'.heap[i]? = w.heap[i]?
theorem fP.of_below {w w':World} (k:Below w.heap.size w w') (A:Nat→Prop):fP A A w w':=⟨k.size,fun i hA hi=>⟨hA,k.block i hi⟩⟩
theorem fP.weak {A A':Nat→Prop} (w:World) (h:∀i,A i→i<w.heap.size→A' i):fP A A' w w:=⟨I _,fun i hA hi=>⟨h i hA hi,rfl⟩⟩
theorem fP.trans {A A' A'':Nat→Prop} {w w' w'':World} (h:fP A A' w w') (k:fP A' A'' w' w''):fP A A'' w w'':=
 ⟨Nat.le_trans h.1 k.1,fun i hA hi=>by
   obtain⟨h1,h2⟩:=h.2 i hA hi
   obtain⟨k1,k2⟩:=k.2 i h1 (Nat.lt_of_lt_of_le hi h.1)
   exact⟨k1,k2.trans h2⟩⟩
def eg (A:Nat→Prop) (w:World) (p:Pr) (x:AP):Prop:=
 p.name=x.name∧p.name.size≤9223372036854775807∧p.s.size≤9223372036854775807∧p.l≤p.c∧∃Lt,x.t = .node p.k p.n p.s Lt∧ap A w Lt p.a p.l
theorem eg.kept {A A':Nat→Prop} {w w':World} {p:Pr} {x:AP} (h:eg A w p x) (k:fP A A' w w'):eg A' w' p x:=by
 obtain⟨h1,h2,h3,h4,Lt,h5,h6⟩:=h
 exact⟨h1,h2,h3,h4,Lt,h5,ap.kept k.1 k.2 _ _ _ h6⟩
theorem eg.any {A:Nat→Prop} {w:World} {p:Pr} {x:AP} (h:eg A w p x):eg fI w p x:=h.kept (fP.weak w fun _ _ _=>trivial)
theorem eg.below {w w':World} {p:Pr} {x:AP} (h:eg fI w p x) (k:Below w.heap.size w w'):eg fI w' p x:=h.kept (fP.of_below k _)
def strs (L:List ByteArray):List Value:=L.map (fun s=>.string s)
def Pr.cells (p:Pr):List Value:=[G p.name,H F p.k,H F p.n,G p.s,D p.a p.l p.c]
def rowP (P:List Pr):List Value:=(P.map Pr.cells).flatten
theorem vH (P:List Pr) (p:Pr):rowP (P ++ [p])=rowP P++p.cells:=by simp[rowP]
def Nd.cells (x:Nd):List Value:=[H F x.id,D x.la x.ll x.lc,D x.pa x.pl x.pc]
def rT (N:List Nd):List Value:=(N.map Nd.cells).flatten
theorem vI (N:List Nd) (x:Nd):rT (N ++ [x])=rT N++x.cells:=by simp[rT]
def Ed.cells (x:Ed):List Value:=[H F x.id,H F x.frm,H F x.dst,G x.typ,D x.pa x.pl x.pc]
def rS (E:List Ed):List Value:=(E.map Ed.cells).flatten
theorem vG (E:List Ed) (x:Ed):rS (E ++ [x])=rS E++x.cells:=by simp[rS]
theorem fh {α:Type} (f:α→List Value) (k:Nat) (hk:∀x,(f x).length=k):∀(L:List α) (i j:Nat) (x:α) (u:Value),L[i]? = some x→(f x)[j]? = some u→(L.map f).flatten[i*k+j]? = some u
 | [],i,j,x,u,h,_=>by simp at h
 | y::L,0,j,x,u,h,hu=>by
   simp at h
   subst h
   have hj:j<(f y).length:=(List.getElem?_eq_some_iff.1 hu).1
   simp only[List.map_cons,List.flatten_cons,Nat.zero_mul,Nat.zero_add]
   rw[List.getElem?_append_left hj]
   exact hu
 | y::L,i+1,j,x,u,h,hu=>by
   simp only[List.map_cons,List.flatten_cons]
   have e:(i+1)*k+j=(f y).length+(i*k+j):=by rw[hk,Nat.add_mul];omega
   rw[e,List.getElem?_append_right (Nat.le_add_right _ _),Nat.add_sub_cancel_left]
   exact fh f k hk L i j x u (by simpa using h) hu
theorem dQ {w:World} {B n size:Nat} {e:TypeId} {a:Option Addr} {l c:Nat} {xs:List Value} (h:w.ownsRow B e size (D a l c) n xs) (hn:0<n):∃g,a=some ⟨g,0,none⟩∧l=n∧B≤g∧g<w.heap.size∧∀j u,xs[j]? = some u→w.cell? ⟨g,0+j,none⟩=some u:=by
 obtain⟨g,cap,hv,hb,hg⟩:=h.form hn
 injection hv with h1 h2 h3
 subst h1 h2 h3
 refine⟨g,rfl,rfl,hb,hg,fun j u hu=>?_⟩
 have hc:=h.cells (g:=g) rfl j u hu
 by_cases h0:j=0
 ·subst h0;simpa[Addr.add] using hc
 ·simpa[Addr.add,h0] using hc
theorem ik {w:World} {B n size:Nat} {e:TypeId} {a:Option Addr} {l c:Nat} {xs:List Value} (h:w.ownsRow B e size (D a l c) n xs):l=n∧l≤c∧n≤9223372036854775807:=by
 have hm:maxLen≤9223372036854775807:=by unfold maxLen;decide
 rcases h.2 with⟨h0,h1⟩ | ⟨g,cap,cur,h0,h1,h2,h3,h4,_⟩
 ·injection h0 with _ h2 h3
  subst h2 h3
  exact⟨h1.symm,I _,by omega⟩
 ·injection h0 with _ h5 h6
  subst h5 h6
  exact⟨rfl,h3,by omega⟩
theorem rP {w:World} {B:Nat} {a:Option Addr} {l c:Nat} {L:List ByteArray} (h:w.ownsRow B 9 1 (D a l c) L.length (strs L)) (hs:∀s ∈ L,s.size≤9223372036854775807):cD w L a l:=by
 obtain⟨h1,_,h2⟩:=ik h
 refine⟨h1,by omega,fun h0=>?_⟩
 obtain⟨g,ha,_,_,hg,hc⟩:=dQ h (by omega)
 exact⟨g,0,ha,hg,fun i s hi=>⟨hs s (List.mem_of_getElem? hi),hc i _ (by rw[strs,List.getElem?_map,hi];rfl)⟩⟩
theorem lD {w:World} {B:Nat} {a:Option Addr} {l c:Nat} {P:List Pr} (h:w.ownsRow B 90 5 (D a l c) P.length (rowP P)) (hs:∀p ∈ P,p.name.size≤9223372036854775807):aX w P a l:=by
 obtain⟨h1,_,h2⟩:=ik h
 refine⟨h1,by omega,fun h0=>?_⟩
 obtain⟨g,ha,_,_,hg,hc⟩:=dQ h (by omega)
 refine⟨g,0,ha,hg,fun i p hi=>⟨hs p (List.mem_of_getElem? hi),?_⟩⟩
 have f:=fun j u hu=>hc _ u (fh Pr.cells 5 (fun _=>rfl) P i j p u hi hu)
 have g0:=f 0 _ rfl
 have g1:=f 1 _ rfl
 have g2:=f 2 _ rfl
 have g3:=f 3 _ rfl
 have g4:=f 4 _ rfl
 exact⟨g0,g1,g2,g3,g4⟩
theorem qV {w:World} {B:Nat} {a:Option Addr} {l c:Nat} {N:List Nd} (h:w.ownsRow B 61 3 (D a l c) N.length (rT N)):bF w N a l:=by
 obtain⟨h1,_,h2⟩:=ik h
 refine⟨h1,by omega,fun h0=>?_⟩
 obtain⟨g,ha,_,_,hg,hc⟩:=dQ h (by omega)
 refine⟨g,0,ha,hg,fun i p hi=>?_⟩
 have f:=fun j u hu=>hc _ u (fh Nd.cells 3 (fun _=>rfl) N i j p u hi hu)
 have g0:=f 0 _ rfl
 have g1:=f 1 _ rfl
 have g2:=f 2 _ rfl
 exact⟨g0,g1,g2⟩
theorem qX {w:World} {B:Nat} {a:Option Addr} {l c:Nat} {E:List Ed} (h:w.ownsRow B 65 5 (D a l c) E.length (rS E)) (hs:∀p ∈ E,p.typ.size≤9223372036854775807):bO w E a l:=by
 obtain⟨h1,_,h2⟩:=ik h
 refine⟨h1,by omega,fun h0=>?_⟩
 obtain⟨g,ha,_,_,hg,hc⟩:=dQ h (by omega)
 refine⟨g,0,ha,hg,fun i p hi=>⟨hs p (List.mem_of_getElem? hi),?_⟩⟩
 have f:=fun j u hu=>hc _ u (fh Ed.cells 5 (fun _=>rfl) E i j p u hi hu)
 have g0:=f 0 _ rfl
 have g1:=f 1 _ rfl
 have g2:=f 2 _ rfl
 have g3:=f 3 _ rfl
 have g4:=f 4 _ rfl
 exact⟨g0,g1,g2,g3,g4⟩
theorem da {w w':World} {B n size:Nat} {e:TypeId} {v:Value} {xs:List Value} (h:w.ownsRow B e size v n xs) (hk:∀g,v.ownBlock=some g→g<w.heap.size→w'.heap[g]? = w.heap[g]?):w'.ownsRow B e size v n xs:=by
 refine⟨h.1,?_⟩
 rcases h.2 with h0 | ⟨g,cap,cur,h0,h1,h2,h3⟩
 ·exact .inl h0
 ·refine .inr ⟨g,cap,cur,h0,h1,?_,h3⟩
  rw[hk g (by rw[h0];rfl) (Array.getElem?_eq_some_iff.1 h2).1]
  exact h2
def sV (A:Nat→Prop) (v:Value):Prop:=∀g,v.ownBlock=some g→A g
structure gT (A:Nat→Prop) (w:World) (y:Nd) (X:AN):Prop where
 id:y.id=X.id
 labs:y.labs=X.labs
 rowL:w.ownsRow 0 9 1 (D y.la y.ll y.lc) y.labs.length (strs y.labs)
 inL:sV A (D y.la y.ll y.lc)
 szL:∀s ∈ y.labs,s.size≤9223372036854775807
 rowP:w.ownsRow 0 90 5 (D y.pa y.pl y.pc) y.props.length (rowP y.props)
 inP:sV (fun i=>A i∧(Q y.la y.ll y.lc).ownBlock≠some i) (D y.pa y.pl y.pc)
 props:aA (eg (fun i=>A i∧(Q y.la y.ll y.lc).ownBlock≠some i∧(Q y.pa y.pl y.pc).ownBlock≠some i) w) y.props X.props
structure gU (A:Nat→Prop) (w:World) (y:Ed) (X:AE):Prop where
 id:y.id=X.id
 frm:y.frm=X.frm
 dst:y.dst=X.dst
 typ:y.typ=X.typ
 szT:y.typ.size≤9223372036854775807
 rowP:w.ownsRow 0 90 5 (D y.pa y.pl y.pc) y.props.length (rowP y.props)
 inP:sV A (D y.pa y.pl y.pc)
 props:aA (eg (fun i=>A i∧(Q y.pa y.pl y.pc).ownBlock≠some i) w) y.props X.props
theorem gT.kept {A A':Nat→Prop} {w w':World} {y:Nd} {X:AN} (h:gT A w y X) (k:fP A A' w w'):gT A' w' y X where
 id:=h.id
 labs:=h.labs
 rowL:=da h.rowL fun g hg hl=>(k.2 g (h.inL g hg) hl).2
 inL:=fun g hg=>by
  have hl:g<w.heap.size:=by
   rcases h.rowL.2 with⟨h0,_⟩ | ⟨g',cap,cur,h0,_,h2,_⟩
   ·rw[h0] at hg;cases hg
   ·rw[h0] at hg
    have:g'=g:=by simpa[Value.ownBlock] using hg
    subst this
    exact(Array.getElem?_eq_some_iff.1 h2).1
  exact(k.2 g (h.inL g hg) hl).1
 szL:=h.szL
 rowP:=da h.rowP fun g hg hl=>(k.2 g (h.inP g hg).1 hl).2
 inP:=fun g hg=>by
  have hl:g<w.heap.size:=by
   rcases h.rowP.2 with⟨h0,_⟩ | ⟨g',cap,cur,h0,_,h2,_⟩
   ·rw[h0] at hg;cases hg
   ·rw[h0] at hg
    have:g'=g:=by simpa[Value.ownBlock] using hg
    subst this
    exact(Array.getElem?_eq_some_iff.1 h2).1
  exact⟨(k.2 g (h.inP g hg).1 hl).1,(h.inP g hg).2⟩
 props:=h.props.mono fun p x _ _ hp=>hp.kept ⟨k.1,fun i hi hl=>⟨⟨(k.2 i hi.1 hl).1,hi.2⟩,(k.2 i hi.1 hl).2⟩⟩
theorem gU.kept {A A':Nat→Prop} {w w':World} {y:Ed} {X:AE} (h:gU A w y X) (k:fP A A' w w'):gU A' w' y X where
 id:=h.id
 frm:=h.frm
 dst:=h.dst
 typ:=h.typ
 szT:=h.szT
 rowP:=da h.rowP fun g hg hl=>(k.2 g (h.inP g hg) hl).2
 inP:=fun g hg=>by
  have hl:g<w.heap.size:=by
   rcases h.rowP.2 with⟨h0,_⟩ | ⟨g',cap,cur,h0,_,h2,_⟩
   ·rw[h0] at hg;cases hg
   ·rw[h0] at hg
    have:g'=g:=by simpa[Value.ownBlock] using hg
    subst this
    exact(Array.getElem?_eq_some_iff.1 h2).1
  exact(k.2 g (h.inP g hg) hl).1
 props:=h.props.mono fun p x _ _ hp=>hp.kept ⟨k.1,fun i hi hl=>⟨⟨(k.2 i hi.1 hl).1,hi.2⟩,(k.2 i hi.1 hl).2⟩⟩
def sY (w:World) (y:Nd) (X:AN):Prop:=y.id=X.id∧y.labs=X.labs∧cD w y.labs y.la y.ll∧aX w y.props y.pa y.pl∧aA (eg fI w) y.props X.props
def tb (w:World) (y:Ed) (X:AE):Prop:=y.id=X.id∧y.frm=X.frm∧y.dst=X.dst∧y.typ=X.typ∧y.typ.size≤9223372036854775807∧aX w y.props y.pa y.pl∧aA (eg fI w) y.props X.props
theorem gT.reads {A:Nat→Prop} {w:World} {y:Nd} {X:AN} (h:gT A w y X):sY w y X:=
 ⟨h.id,h.labs,rP h.rowL h.szL,lD h.rowP (fun p hp=>by
   obtain⟨i,hi⟩:=List.getElem?_of_mem hp
   obtain⟨x,_,hx⟩:=h.props.left hi
   exact hx.2.1),h.props.mono fun p x _ _ hp=>hp.any⟩
theorem gU.reads {A:Nat→Prop} {w:World} {y:Ed} {X:AE} (h:gU A w y X):tb w y X:=
 ⟨h.id,h.frm,h.dst,h.typ,h.szT,lD h.rowP (fun p hp=>by
   obtain⟨i,hi⟩:=List.getElem?_of_mem hp
   obtain⟨x,_,hx⟩:=h.props.left hi
   exact hx.2.1),h.props.mono fun p x _ _ hp=>hp.any⟩
theorem sY.below {w w':World} {y:Nd} {X:AN} (h:sY w y X) (k:Below w.heap.size w w'):sY w' y X:=
 ⟨h.1,h.2.1,h.2.2.1.below k,h.2.2.2.1.below k,h.2.2.2.2.mono fun p x _ _ hp=>hp.below k⟩
theorem tb.below {w w':World} {y:Ed} {X:AE} (h:tb w y X) (k:Below w.heap.size w w'):tb w' y X:=
 ⟨h.1,h.2.1,h.2.2.1,h.2.2.2.1,h.2.2.2.2.1,h.2.2.2.2.2.1.below k,h.2.2.2.2.2.2.mono fun p x _ _ hp=>hp.below k⟩
def vz (w:World) (X:List AP) (a:Option Addr) (l:Nat):Prop:=∃P,aX w P a l∧aA (eg fI w) P X
def ub (w:World) (X:List AN) (a:Option Addr) (l:Nat):Prop:=∃N,bF w N a l∧aA (sY w) N X
def ud (w:World) (X:List AE) (a:Option Addr) (l:Nat):Prop:=∃E,bO w E a l∧aA (tb w) E X
theorem vz.below {w w':World} {X:List AP} {a:Option Addr} {l:Nat} (h:vz w X a l) (k:Below w.heap.size w w'):vz w' X a l:=by
 obtain⟨N,h1,h2⟩:=h
 exact⟨N,h1.below k,h2.mono fun p x _ _ hp=>hp.below k⟩
theorem ub.below {w w':World} {X:List AN} {a:Option Addr} {l:Nat} (h:ub w X a l) (k:Below w.heap.size w w'):ub w' X a l:=by
 obtain⟨N,h1,h2⟩:=h
 exact⟨N,h1.below k,h2.mono fun p x _ _ hp=>hp.below k⟩
theorem ud.below {w w':World} {X:List AE} {a:Option Addr} {l:Nat} (h:ud w X a l) (k:Below w.heap.size w w'):ud w' X a l:=by
 obtain⟨N,h1,h2⟩:=h
 exact⟨N,h1.below k,h2.mono fun p x _ _ hp=>hp.below k⟩
def dN {α β:Type} (R:(Nat→Prop)→α→β→Prop) (A:Nat→Prop) (P:List α) (L:List β):Prop:=
 P.length=L.length∧∃As:Nat→Nat→Prop,(∀(i:Nat) p x,P[i]? = some p→L[i]? = some x→R (As i) p x)∧(∀i b,As i b→A b)∧∀i j b,As i b→As j b→i=j
theorem dN.nil {α β:Type} {R:(Nat→Prop)→α→β→Prop} {A:Nat→Prop}:dN R A [] []:=⟨rfl,fun _ _=>False,fun i p x h=>by simp at h,fun _ _ h=>h.elim,fun _ _ _ h=>h.elim⟩
theorem dN.pair {α β:Type} {R:(Nat→Prop)→α→β→Prop} {A:Nat→Prop} {P:List α} {L:List β} (h:dN R A P L) (m:∀(B B':Nat→Prop) p x,(∀b,B b→B' b)→R B p x→R B' p x):aA (R A) P L:=by
 obtain⟨h1,As,h2,h3,h4⟩:=h
 exact⟨h1,fun i p x hp hx=>m _ _ p x (h3 i) (h2 i p x hp hx)⟩
theorem dN.carry {α β:Type} {R R':(Nat→Prop)→α→β→Prop} {A A':Nat→Prop} {P:List α} {L:List β} (h:dN R A P L) (Z:Nat→Prop) (m:∀(B:Nat→Prop) p x,(∀b,B b→A b)→R B p x→R' (fun b=>B b∧Z b) p x) (hA:∀b,A b→Z b→A' b):dN R' A' P L:=by
 obtain⟨h1,As,h2,h3,h4⟩:=h
 exact⟨h1,fun i b=>As i b∧Z b,fun i p x hp hx=>m _ p x (h3 i) (h2 i p x hp hx),fun i b hb=>hA b (h3 i b hb.1) hb.2,fun i j b hi hj=>h4 i j b hi.1 hj.1⟩
theorem dN.snoc {α β:Type} {R:(Nat→Prop)→α→β→Prop} {A A' B:Nat→Prop} {P:List α} {L:List β} (h:dN R A P L) {p:α} {x:β} (hR:R B p x) (hA:∀b,A b→A' b) (hB:∀b,B b→A' b) (hd:∀b,A b→¬B b):dN R A' (P ++ [p]) (L ++ [x]):=by
 obtain⟨h1,As,h2,h3,h4⟩:=h
 refine⟨by simp[h1],fun i=>if i<P.length then As i else if i=P.length then B else fun _=>False,fun i q y hq hy=>?_,fun i b hb=>?_,fun i j b hi hj=>?_⟩
 ·rcases Nat.lt_trichotomy i P.length with hi | hi | hi
  ·simp only[if_pos hi]
   rw[List.getElem?_append_left hi] at hq
   rw[List.getElem?_append_left (by omega)] at hy
   exact h2 i q y hq hy
  ·subst hi
   simp only[Nat.lt_irrefl,if_false,if_true]
   rw[List.getElem?_append_right (I _),Nat.sub_self] at hq
   rw[h1,List.getElem?_append_right (I _),Nat.sub_self] at hy
   injection hq with hq
   injection hy with hy
   subst hq hy
   exact hR
  ·rw[List.getElem?_eq_none (by simp;omega)] at hq
   cases hq
 ·dsimp only at hb
  split at hb
  ·exact hA b (h3 i b hb)
  ·split at hb
   ·exact hB b hb
   ·exact hb.elim
 ·dsimp only at hi hj
  split at hi
  ·split at hj
   ·exact h4 i j b hi hj
   ·split at hj
    ·exact absurd hj (hd b (h3 i b hi))
    ·exact hj.elim
  ·split at hi
   ·split at hj
    ·exact absurd hi (hd b (h3 j b hj))
    ·split at hj
     ·omega
     ·exact hj.elim
   ·exact hi.elim
theorem dN.erase {α β:Type} {R:(Nat→Prop)→α→β→Prop} {A:Nat→Prop} {P:List α} {L:List β} (h:dN R A P L) (i:Nat):dN R A (P.eraseIdx i) (L.eraseIdx i):=by
 obtain⟨h1,As,h2,h3,h4⟩:=h
 refine⟨by rw[List.length_eraseIdx,List.length_eraseIdx,h1],fun j=>if j<i then As j else As (j+1),fun j p x hp hx=>?_,fun j b hb=>?_,fun j k b hj hk=>?_⟩
 ·rw[List.getElem?_eraseIdx] at hp hx
  split at hp
  ·rename_i hj
   rw[if_pos hj] at hx
   simp only[if_pos hj]
   exact h2 j p x hp hx
  ·rename_i hj
   rw[if_neg hj] at hx
   simp only[if_neg hj]
   exact h2 (j+1) p x hp hx
 ·dsimp only at hb
  split at hb
  ·exact h3 j b hb
  ·exact h3 (j+1) b hb
 ·dsimp only at hj hk
  split at hj<;>split at hk<;>have:=h4 _ _ b hj hk<;>omega
theorem dN.set {α β:Type} {R R':(Nat→Prop)→α→β→Prop} {A A':Nat→Prop} {P:List α} {L:List β} (h:dN R A P L) {i:Nat} {p:α} {x:β} (hp:P[i]? = some p) (hx:L[i]? = some x) (N:Nat→Prop) (hN:∀b,A b→¬N b) (hA:∀b,A b→A' b) (hNA:∀b,N b→A' b) (p':α) (x':β)
 (one:∀B:Nat→Prop,(∀b,B b→A b)→R B p x→R' (fun b=>B b∨N b) p' x')
 (other:∀(B C:Nat→Prop) q y,(∀b,B b→A b)→(∀b,C b→A b)→(∀b,B b→¬C b)→R C p x→R B q y→R' B q y):dN R' A' (P.set i p') (L.set i x'):=by
 obtain⟨h1,As,h2,h3,h4⟩:=h
 have hi:i<P.length:=(List.getElem?_eq_some_iff.1 hp).1
 refine⟨by simp[h1],fun j b=>As j b∨(j=i∧N b),fun j q y hq hy=>?_,fun j b hb=>?_,fun j k b hj hk=>?_⟩
 ·rw[List.getElem?_set] at hq hy
  by_cases hij:i=j
  ·subst hij
   rw[if_pos rfl,if_pos hi] at hq
   rw[if_pos rfl,if_pos (by omega)] at hy
   injection hq with hq
   injection hy with hy
   subst hq hy
   have:=one (As i) (h3 i) (h2 i p x hp hx)
   simpa using this
  ·rw[if_neg hij] at hq hy
   have:=other (As j) (As i) q y (h3 j) (h3 i) (fun b hb hb'=>hij (h4 i j b hb' hb)) (h2 i p x hp hx) (h2 j q y hq hy)
   have e:(fun b=>As j b∨(j=i∧N b))=As j:=by
    funext b
    have:¬j=i:=fun e=>hij e.symm
    simp[this]
   show R' (fun b=>As j b∨(j=i∧N b)) q y
   rw[e]
   exact this
 ·rcases hb with hb | hb
  ·exact hA b (h3 j b hb)
  ·exact hNA b hb.2
 ·rcases hj with hj | hj
  ·rcases hk with hk | hk
   ·exact h4 j k b hj hk
   ·exact absurd hk.2 (hN b (h3 j b hj))
  ·rcases hk with hk | hk
   ·exact absurd hj.2 (hN b (h3 k b hk))
   ·exact hj.1.trans hk.1.symm
theorem gT.wide {w:World} (B B':Nat→Prop) (p:Nd) (x:AN) (h:∀b,B b→B' b) (k:gT B w p x):gT B' w p x:=k.kept (fP.weak w fun b hb _=>h b hb)
theorem gU.wide {w:World} (B B':Nat→Prop) (p:Ed) (x:AE) (h:∀b,B b→B' b) (k:gU B w p x):gU B' w p x:=k.kept (fP.weak w fun b hb _=>h b hb)
def ut (A:Nat→Prop) (w:World) (X:List AN) (v:Value):Prop:=sV A v∧∃N,w.ownsRow 0 61 3 v N.length (rT N)∧dN (fun B=>gT B w) (fun i=>A i∧v.ownBlock≠some i) N X
def uw (A:Nat→Prop) (w:World) (X:List AE) (v:Value):Prop:=sV A v∧∃E,w.ownsRow 0 65 5 v E.length (rS E)∧dN (fun B=>gU B w) (fun i=>A i∧v.ownBlock≠some i) E X
theorem ig {w:World} {B n size:Nat} {e:TypeId} {v:Value} {xs:List Value} (h:w.ownsRow B e size v n xs):∃a c,v=D a n c∧n≤c:=by
 rcases h.2 with⟨h0,h1⟩ | ⟨g,cap,cur,h0,h1,h2,h3,_⟩
 ·exact⟨none,0,by rw[h0,h1],by omega⟩
 ·exact⟨_,cap,h0,h3⟩
theorem ut.reads {A:Nat→Prop} {w:World} {X:List AN} {v:Value} (h:ut A w X v):∃a c,v=D a X.length c∧X.length≤c∧ub w X a X.length:=by
 obtain⟨_,N,h1,h20⟩:=h
 have h2:=h20.pair gT.wide
 obtain⟨a,c,rfl,hc⟩:=ig h1
 rw[h2.1] at hc
 refine⟨a,c,by rw[h2.1],hc,N,?_,h2.mono fun p x _ _ hp=>hp.reads⟩
 rw[←h2.1]
 exact qV h1
theorem uw.reads {A:Nat→Prop} {w:World} {X:List AE} {v:Value} (h:uw A w X v):∃a c,v=D a X.length c∧X.length≤c∧ud w X a X.length:=by
 obtain⟨_,N,h1,h20⟩:=h
 have h2:=h20.pair gU.wide
 obtain⟨a,c,rfl,hc⟩:=ig h1
 rw[h2.1] at hc
 refine⟨a,c,by rw[h2.1],hc,N,?_,h2.mono fun p x _ _ hp=>hp.reads⟩
 rw[←h2.1]
 refine qX h1 fun p hp=>?_
 obtain⟨i,hi⟩:=List.getElem?_of_mem hp
 obtain⟨x,_,hx⟩:=h2.left hi
 exact hx.szT
def au (w:World) (b:Nat):Nat→List Value→World
 | _,[]=>w
 | o,v::vs=>au (w.setCell ⟨b,o,none⟩ v) b (o+1) vs
theorem aD (b:Nat):∀(vs:List Value) (o:Nat) (w:World),(au w b o vs).heap.size=w.heap.size
 | [],_,_=>rfl
 | v::vs,o,w=>by
   show(au (w.setCell ⟨b,o,none⟩ v) b (o+1) vs).heap.size=_
   rw[aD b vs]
   simp[World.setCell]
theorem aB (b:Nat):∀(vs:List Value) (o:Nat) (w:World) (i:Nat),i≠b→(au w b o vs).heap[i]? = w.heap[i]?
 | [],_,_,_,_=>rfl
 | v::vs,o,w,i,h=>by
   show(au (w.setCell ⟨b,o,none⟩ v) b (o+1) vs).heap[i]? = _
   rw[aB b vs _ _ i h]
   exact Below.heap_setCell w ⟨b,o,none⟩ v i h
theorem aE (b:Nat):∀(vs:List Value) (o:Nat) (w:World),Below b w (au w b o vs)
 | [],_,w=>M _ _
 | v::vs,o,w=>((M b w).setCell (p:=⟨b,o,none⟩) (I _) v).trans (aE b vs (o+1) _)
theorem rO {w:World} {b:Nat} {cs:Array Value} {t:TypeId} (h:w.heap[b]? = some (J cs t (0,0))) (o:Nat) (v:Value):(w.setCell ⟨b,o,none⟩ v).heap[b]? = some (J (cs.setIfInBounds o v) t (0,0)):=by
 simp[World.setCell,Array.getElem?_modify,h]
def vX (cs:Array Value):Nat→List Value→Array Value
 | _,[]=>cs
 | o,v::vs=>vX (cs.setIfInBounds o v) (o+1) vs
theorem lH {b:Nat} {t:TypeId}:∀(vs:List Value) (o:Nat) (w:World) (cs:Array Value),w.heap[b]? = some (J cs t (0,0))→(au w b o vs).heap[b]? = some (J (vX cs o vs) t (0,0))
 | [],_,_,_,h=>h
 | v::vs,o,w,cs,h=>lH vs (o+1) _ _ (rO h o v)
theorem fP.put {A A':Nat→Prop} {w w':World} (k:fP A A' w w') (b o:Nat) (vs:List Value) (hb:∀i,A' i→i≠b):fP A A' w (au w' b o vs):=
 ⟨by rw[aD];exact k.1,fun i hA hi=>⟨(k.2 i hA hi).1,(aB b vs o w' i (hb i (k.2 i hA hi).1)).trans (k.2 i hA hi).2⟩⟩
theorem ap.get {A:Nat→Prop} {w:World}:∀{L:List T} {a:Option Addr} {l:Nat} (h:ap A w L a l) {i:Nat} (hi:i<l),∃b off t,a=some ⟨b,off,none⟩∧A b∧b<w.heap.size∧L.drop i=t::L.drop (i+1)∧fE A w t b (off+i*4)
 | [],_,_,h,i,hi=>by unfold ap at h;omega
 | t::ts,a,l,h,i,hi=>by
   unfold ap at h
   obtain⟨b,off,h1,h2,h3,hA,h4,h5,h6⟩:=h
   cases i with
   | zero=>exact⟨b,off,t,h1,hA,h4,rfl,by simpa using h5⟩
   | succ i=>
     obtain⟨b',off',t',e1,e2,e3,e4,e5⟩:=ap.get h6 (i:=i) (by omega)
     injection e1 with e1
     injection e1 with e1 e6
     subst e1 e6
     exact⟨b,off,t',h1,e2,e3,e4,by rw[show off+(i+1)*4=off+4+i*4 by omega];exact e5⟩
theorem ap.at {A:Nat→Prop} {w:World} {L:List T} {a:Option Addr} {l:Nat} (h:ap A w L a l) {i:Nat} (hi:i<l):∃b off k n s Lt at' lt ct,a=some ⟨b,off,none⟩∧A b∧b<w.heap.size∧L.drop i = .node k n s Lt::L.drop (i+1)∧w.cell? ⟨b,off+i*4,none⟩=some (H F k)∧w.cell? ⟨b,off+i*4+1,none⟩=some (H F n)∧w.cell? ⟨b,off+i*4+1+1,none⟩=some (G s)∧w.cell? ⟨b,off+i*4+1+1+1,none⟩=some (D at' lt ct)∧lt≤ct∧s.size≤9223372036854775807∧ap A w Lt at' lt:=by
 obtain⟨b,off,t,e1,e2,e3,e4,e5⟩:=h.get hi
 obtain⟨k,n,s,Lt⟩:=t
 unfold fE at e5
 obtain⟨hs,a',l',c',q0,q1,q2,q3,q4,q5⟩:=e5
 exact⟨b,off,k,n,s,Lt,a',l',c',e1,e2,e3,e4,q0,q1,q2,q3,q4,hs,q5⟩
theorem ap.len {A:Nat→Prop} {w:World} {L:List T} {a:Option Addr} {l:Nat} (h:ap A w L a l):l=L.length∧l≤9223372036854775807:=(ap.lies _ _ _ h).length
theorem ap.below {A:Nat→Prop} {w w':World} {L:List T} {a:Option Addr} {l:Nat} (h:ap A w L a l) (k:Below w.heap.size w w'):ap A w' L a l:=ap.kept k.size (fun i hi hl=>⟨hi,k.block i hl⟩) _ _ _ h
abbrev vC (k n:Int) (s:ByteArray) (a:Option Addr) (l c:Nat):Value:=O #[H F k,H F n,G s,D a l c]
def aw:T:=.node 0 0 ⟨#[]⟩ []
def ei (b:Bool):T:=.node 1 (if b then 1 else 0) ⟨#[]⟩ []
def eL (n:Int):T:=.node 2 n ⟨#[]⟩ []
def aL (A:Nat→Prop) (w w':World) (t:T) (e:Ending):Prop:=∃k n s a l c L,e=K (vC k n s a l c)∧t = .node k n s L∧l≤c∧s.size≤9223372036854775807∧ap (fun i=>A i∨w.heap.size≤i) w' L a l
theorem df {A:Nat→Prop} {w:World} {a:Option Addr}:ap A w [] a 0:=by unfold ap;rfl
theorem aL.flat {A:Nat→Prop} {w w':World} (k n:Int) (s:ByteArray) (hs:s.size≤9223372036854775807):aL A w w' (.node k n s []) (K (vC k n s none 0 0)):=⟨k,n,s,none,0,0,[],rfl,rfl,I _,hs,df⟩
theorem aL.null {A:Nat→Prop} {w w':World}:aL A w w' aw (K (vC 0 0 ⟨#[]⟩ none 0 0)):=aL.flat 0 0 ⟨#[]⟩ (by decide)
theorem aL.bool {A:Nat→Prop} {w w':World} (b:Bool):aL A w w' (ei b) (K (vC 1 (if b then 1 else 0) ⟨#[]⟩ none 0 0)):=aL.flat 1 _ ⟨#[]⟩ (by decide)
theorem dh {X:World} {b:Nat} {t:TypeId} {cs:Array Value} (hb:X.heap[b]? = some (J cs t (0,0))) (h4:cs.size=4) (v0 v1 v2 v3:Value) :
 (au X b 0 [v0,v1,v2,v3]).heap[b]? = some (J #[v0,v1,v2,v3] t (0,0)):=by
 have:=lH [v0,v1,v2,v3] 0 X cs hb
 rw[this]
 match cs,h4 with
 | ⟨[a,b,c,d]⟩,_=>rfl
theorem pT (w:World):Calls Tryz.prog 50 #[.bool true] w fun e w'=>e=K (vC 1 1 ⟨#[]⟩ none 0 0)∧Below w.heap.size w w':=by
 go_enter Tryz.func50,Tryz.ntmps50
 go_wp2_with fail
 exact bodyPost_ret (v:=vC 1 1 ⟨#[]⟩ none 0 0) (by simp[results,Tryz.results50,go_sem]) rfl ⟨rfl,(M _ _).alloc (I _) _⟩
theorem pU (w:World):Calls Tryz.prog 50 #[.bool false] w fun e w'=>e=K (vC 1 0 ⟨#[]⟩ none 0 0)∧Below w.heap.size w w':=by
 go_enter Tryz.func50,Tryz.ntmps50
 go_wp2_with fail
 exact bodyPost_ret (v:=vC 1 0 ⟨#[]⟩ none 0 0) (by simp[results,Tryz.results50,go_sem]) rfl ⟨rfl,(M _ _).alloc (I _) _⟩
def cG:T→T
 | .node k n _ _=>if k=1 then ei (n==0) else aw
def dn (k n:Int):Int × Int:=if k=1 then (1,if n=0 then 1 else 0) else (0,0)
theorem fU (k n:Int) (s:ByteArray) (L:List T):cG (.node k n s L) = .node (dn k n).1 (dn k n).2 ⟨#[]⟩ []:=by
 unfold cG dn ei aw
 by_cases hk:k=1
 ·by_cases hn:n=0
  ·simp[hk,hn]
  ·simp[hk,hn]
 ·simp[hk]
theorem jO (k n:Int) (s:ByteArray) (a:Option Addr) (l c:Nat) (w:World):Calls Tryz.prog 45 #[vC k n s a l c] w fun e w'=>e=K (vC (dn k n).1 (dn k n).2 ⟨#[]⟩ none 0 0)∧Below w.heap.size w w':=by
 have b0:Below w.heap.size w ((w.alloc (J #[H F k,H F n,G s,D a l c] 30)).alloc (J #[H F 0,H F 0,G ⟨#[]⟩,D none 0 0] 30)):=((M _ _).alloc (I _) _).alloc (by simp) _
 have hy:=ay w (J #[H F k,H F n,G s,D a l c] 30) (J #[H F 0,H F 0,G ⟨#[]⟩,D none 0 0] 30)
 have hz:((w.alloc (J #[H F k,H F n,G s,D a l c] 30)).alloc (J #[H F 0,H F 0,G ⟨#[]⟩,D none 0 0] 30)).heap.size=w.heap.size+2:=by simp
 have HB:=aa b0
 have HY:=aa hy
 have HZ:=aa hz
 clear b0 hy hz
 by_cases hk:k=1
 ·have hk':(k != 1)=false:=by simp[hk]
  by_cases hn:n=0
  ·have hn':(n==0)=true:=by simp[hn]
   have e1:dn k n=(1,1):=by unfold dn;simp[hk,hn]
   rw[e1]
   clear e1 hk hn
   show Calls _ _ _ _ fun e w_=>e=K (vC 1 1 ⟨#[]⟩ none 0 0)∧Below w.heap.size w w_
   go_enter Tryz.func45,Tryz.ntmps45
   go_wp2_with fail
   refine(pT _).mono ?_
   generalize (w.alloc (J #[H F k,H F n,G s,D a l c] 30)).alloc (J #[H F 0,H F 0,G ⟨#[]⟩,D none 0 0] 30)=W at HB HY HZ ⊢
   rintro e w1 ⟨rfl,k1⟩
   have hb1:=(k1.block (w.heap.size+1) (by rw[HZ.out];omega)).trans HY.out
   obtain⟨h0,h1,h2,h3⟩:=ai hb1
   obtain⟨fh0,fh1,fh2,fh3⟩:=aq hb1
   simp at h0 h1 h2 h3
   have hs1:w.heap.size+1<w1.heap.size:=by have:=k1.size;rw[HZ.out] at this;omega
   have HW1:=aa (af HB.out k1)
   have HB1:=aa hb1
   clear k1 hb1
   go_wp2_with fail
   have eP:∀X:World,(((X.setCell ⟨w.heap.size+1,0,none⟩ (H F 1)).setCell ⟨w.heap.size+1,1,none⟩ (H F 1)).setCell ⟨w.heap.size+1,2,none⟩ (G ⟨#[]⟩)).setCell ⟨w.heap.size+1,3,none⟩ (D none 0 0)=au X (w.heap.size+1) 0 [H F 1,H F 1,G ⟨#[]⟩,D none 0 0]:=fun _=>rfl
   rw[eP]
   have E:=dh HB1.out rfl (H F 1) (H F 1) (G ⟨#[]⟩) (D none 0 0)
   have hbb:Below w.heap.size w (au w1 (w.heap.size+1) 0 [H F 1,H F 1,G ⟨#[]⟩,D none 0 0]):=HW1.out.trans ((aE (w.heap.size+1) _ _ w1).mono (by omega))
   have hoth:∀j,j≠w.heap.size+1→(au w1 (w.heap.size+1) 0 [H F 1,H F 1,G ⟨#[]⟩,D none 0 0]).heap[j]? = w1.heap[j]?:=fun j hj=>aB _ _ _ _ j hj
   have hsz:(au w1 (w.heap.size+1) 0 [H F 1,H F 1,G ⟨#[]⟩,D none 0 0]).heap.size=w1.heap.size:=aD _ _ _ _
   generalize au w1 (w.heap.size+1) 0 [H F 1,H F 1,G ⟨#[]⟩,D none 0 0]=Y at E hbb hoth hsz ⊢
   obtain⟨t0,t1,t2,t3⟩:=ai E
   simp at t0 t1 t2 t3
   exact bodyPost_ret (v:=O #[H F 1,H F 1,G ⟨#[]⟩,D none 0 0]) (by simp[results,Tryz.results45,go_sem,t0,t1,t2,t3]) rfl ⟨rfl,hbb⟩
  ·have hn':(n==0)=false:=by simp[hn]
   have e1:dn k n=(1,0):=by unfold dn;simp[hk,hn]
   rw[e1]
   clear e1 hk hn
   show Calls _ _ _ _ fun e w_=>e=K (vC 1 0 ⟨#[]⟩ none 0 0)∧Below w.heap.size w w_
   go_enter Tryz.func45,Tryz.ntmps45
   go_wp2_with fail
   refine(pU _).mono ?_
   generalize (w.alloc (J #[H F k,H F n,G s,D a l c] 30)).alloc (J #[H F 0,H F 0,G ⟨#[]⟩,D none 0 0] 30)=W at HB HY HZ ⊢
   rintro e w1 ⟨rfl,k1⟩
   have hb1:=(k1.block (w.heap.size+1) (by rw[HZ.out];omega)).trans HY.out
   obtain⟨h0,h1,h2,h3⟩:=ai hb1
   obtain⟨fh0,fh1,fh2,fh3⟩:=aq hb1
   simp at h0 h1 h2 h3
   have hs1:w.heap.size+1<w1.heap.size:=by have:=k1.size;rw[HZ.out] at this;omega
   have HW1:=aa (af HB.out k1)
   have HB1:=aa hb1
   clear k1 hb1
   go_wp2_with fail
   have eP:∀X:World,(((X.setCell ⟨w.heap.size+1,0,none⟩ (H F 1)).setCell ⟨w.heap.size+1,1,none⟩ (H F 0)).setCell ⟨w.heap.size+1,2,none⟩ (G ⟨#[]⟩)).setCell ⟨w.heap.size+1,3,none⟩ (D none 0 0)=au X (w.heap.size+1) 0 [H F 1,H F 0,G ⟨#[]⟩,D none 0 0]:=fun _=>rfl
   rw[eP]
   have E:=dh HB1.out rfl (H F 1) (H F 0) (G ⟨#[]⟩) (D none 0 0)
   have hbb:Below w.heap.size w (au w1 (w.heap.size+1) 0 [H F 1,H F 0,G ⟨#[]⟩,D none 0 0]):=HW1.out.trans ((aE (w.heap.size+1) _ _ w1).mono (by omega))
   have hoth:∀j,j≠w.heap.size+1→(au w1 (w.heap.size+1) 0 [H F 1,H F 0,G ⟨#[]⟩,D none 0 0]).heap[j]? = w1.heap[j]?:=fun j hj=>aB _ _ _ _ j hj
   have hsz:(au w1 (w.heap.size+1) 0 [H F 1,H F 0,G ⟨#[]⟩,D none 0 0]).heap.size=w1.heap.size:=aD _ _ _ _
   generalize au w1 (w.heap.size+1) 0 [H F 1,H F 0,G ⟨#[]⟩,D none 0 0]=Y at E hbb hoth hsz ⊢
   obtain⟨t0,t1,t2,t3⟩:=ai E
   simp at t0 t1 t2 t3
   exact bodyPost_ret (v:=O #[H F 1,H F 0,G ⟨#[]⟩,D none 0 0]) (by simp[results,Tryz.results45,go_sem,t0,t1,t2,t3]) rfl ⟨rfl,hbb⟩
 ·have hk':(k != 1)=true:=by simp[hk]
  have e1:dn k n=(0,0):=by unfold dn;simp[hk]
  rw[e1]
  clear e1 hk
  go_enter Tryz.func45,Tryz.ntmps45
  go_wp2_with fail
  exact bodyPost_ret (v:=vC 0 0 ⟨#[]⟩ none 0 0) (by simp[results,Tryz.results45,go_sem]) rfl ⟨rfl,HB.out⟩

theorem aY (w:World) (b:Nat) (v0 v1 v2 v3:Value):Below b w (bC w b v0 v1 v2 v3):=
 ((((M _ _).setCell (p:=⟨b,0,none⟩) (I _) _).setCell (p:=⟨b,1,none⟩) (I _) _).setCell (p:=⟨b,2,none⟩) (I _) _).setCell (p:=⟨b,3,none⟩) (I _) _
def wT (w:World) (k n:Int) (s:ByteArray) (a a':Option Addr) (l l' c c':Nat):World:=(w.alloc (J #[H F k,H F n,G s,D a l c] 30)).alloc (J #[H F k,H F n,G s,D a' l' c'] 30)
def meet (x y:Int):Int:=if x=0 then 0 else if y=0 then 0 else if x=1 then y else 2
mutual
def aU:T→T→Int
 | .node k n s L,.node k' n' s' L'=>if k=0∨k'=0 then 2 else if k=4∧k'=4 then co L L' else if cY (.node k n s L) (.node k' n' s' L')=0 then 1 else 0
def co:List T→List T→Int
 | [],[]=>1
 | [],_::_=>0
 | _::_,[]=>0
 | t::ts,u::us=>meet (aU t u) (co ts us)
end
def Tri (x:Int):Prop:=x=0∨x=1∨x=2
theorem Tri.meet {x y:Int} (hx:Tri x) (hy:Tri y):Tri (meet x y):=by
 rcases hx with rfl | rfl | rfl<;>rcases hy with rfl | rfl | rfl<;>simp[Go.Proofs.YtijjpoohhgapoaaGreatDoor.meet,Tri]
theorem j9 {x y z:Int} (hx:Tri x) (hy:Tri y) (hz:Tri z):meet (meet x y) z=meet x (meet y z):=by
 rcases hx with rfl | rfl | rfl<;>rcases hy with rfl | rfl | rfl<;>rcases hz with rfl | rfl | rfl<;>simp[meet]
theorem re {x y:Int} (hx:Tri x) (hy:Tri y):meet x y=meet y x:=by
 rcases hx with rfl | rfl | rfl<;>rcases hy with rfl | rfl | rfl<;>simp[meet]
theorem gc {x:Int} (hx:Tri x):meet 1 x=x:=by
 rcases hx with rfl | rfl | rfl<;>simp[meet]
theorem meet_one' {x:Int} (hx:Tri x):meet x 1=x:=by
 rcases hx with rfl | rfl | rfl<;>simp[meet]
theorem gx (x:Int):meet 0 x=0:=by simp[meet]
theorem meet_zero' (x:Int):meet x 0=0:=by simp[meet]
mutual
theorem dk:∀t u:T,Tri (aU t u)
 | .node k n s L,.node k' n' s' L'=>by
   unfold aU
   split
   ·exact .inr (.inr rfl)
   ·split
    ·exact bs L L'
    ·split
     ·exact .inr (.inl rfl)
     ·exact .inl rfl
theorem bs:∀x y:List T,Tri (co x y)
 | [],[]=>by unfold co;exact .inr (.inl rfl)
 | [],_::_=>by unfold co;exact .inl rfl
 | _::_,[]=>by unfold co;exact .inl rfl
 | t::ts,u::us=>by unfold co;exact(dk t u).meet (bs ts us)
end
theorem gt:co [] []=1:=by unfold co;rfl
theorem fp (t:T) (ts:List T) (u:T) (us:List T):co (t::ts) (u::us)=meet (aU t u) (co ts us):=by
 conv=>lhs;unfold co
theorem fo:∀{x y:List T},x.length≠y.length→co x y=0
 | [],[],h=>absurd rfl h
 | [],_::_,_=>by unfold co;rfl
 | _::_,[],_=>by unfold co;rfl
 | t::ts,u::us,h=>by
   rw[fp,fo (x:=ts) (y:=us) (by simpa using h),meet_zero']
end Go.Proofs.YtijjpoohhgapoaaGreatDoor

import Derived.Test.YtijjpoohhgapoaaGreatDoorVQAT
namespace Go.Proofs.YtijjpoohhgapoaaGreatDoor
open Go.RowKit
set_option linter.unusedVariables false
set_option linter.unusedSimpArgs false
set_option maxHeartbeats 4000000
set_option maxRecDepth 100000
open Value renaming string → C, slice → I, int → K, agg → R, pointer → U, tuple → W
open List renaming any_cons → D, mem_cons_self → N, mem_cons_of_mem → O
open Bool renaming false_or → E, true_or → G, or_true → H
open IntKind renaming i64 → J
open Obj renaming cells → M
open Ending renaming returned → S
open Th renaming zero → V
inductive Cw:Nat→T→Prop
 | null (d:Nat):Cw d (.node 0 0 ⟨#[]⟩ [])
 | bool (d:Nat) (n:Int) (h:n=0∨n=1):Cw d (.node 1 n ⟨#[]⟩ [])
 | int (d:Nat) (n:Int) (h0:-9223372036854775808≤n) (h1:n≤9223372036854775807):Cw d (.node 2 n ⟨#[]⟩ [])
 | text (d:Nat) (s:ByteArray) (h0:s.size≤4000):Cw d (.node 3 0 s [])
 | list (d:Nat) (L:List T) (h0:L.length≤30) (h1:∀t ∈ L,Cw d t):Cw (d+1) (.node 4 0 ⟨#[]⟩ L)
theorem Ck.cw:∀{d:Nat} {t:T},Ck d t→Cw d t:=by
 intro d t h
 induction h with
 | null d=>exact .null d
 | bool d n h=>exact .bool d n h
 | int d n h0 h1=>exact .int d n h0 h1
 | text d s h0 h1=>exact .text d s h0
 | list d L h0 h1 ih=>exact .list d L h0 ih
theorem Cw.up:∀{d:Nat} {t:T},Cw d t→Cw (d+1) t:=by
 intro d t h
 induction h with
 | null d=>exact .null _
 | bool d n h=>exact .bool _ n h
 | int d n h0 h1=>exact .int _ n h0 h1
 | text d s h0=>exact .text _ s h0
 | list d L h0 h1 ih=>exact .list _ L h0 ih
theorem gB:∀{L:List T},(∀t ∈ L,InT t)→InL L
 | [],_=>by unfold InL;trivial
 | t::ts,h=>by unfold InL;exact⟨h t (N ..),gB fun u hu=>h u (O _ hu)⟩
theorem Cw.inT:∀{d:Nat} {t:T},Cw d t→InT t:=by
 intro d t h
 induction h with
 | null d=>unfold InT InL;exact⟨by omega,trivial⟩
 | bool d n h=>unfold InT InL;exact⟨by omega,trivial⟩
 | int d n h0 h1=>unfold InT InL;exact⟨⟨h0,h1⟩,trivial⟩
 | text d s h0=>unfold InT InL;exact⟨by omega,trivial⟩
 | list d L h0 h1 ih=>unfold InT;exact⟨by omega,gB ih⟩
theorem wi:∀(d:Nat) (t:T),Cw d t→wtT t≤2*32 ^ d:=by
 intro d
 induction d with
 | zero=>
   intro t h
   cases h<;>simp[wtT,wtL]
 | succ d ih=>
   intro t h
   have hp:0<32 ^ d:=Nat.pow_pos (by decide)
   have e:2*32 ^ (d+1)=64*32 ^ d:=by rw[Nat.pow_succ];omega
   rw[e]
   cases h with
   | null=>simp only[wtT,wtL];omega
   | bool=>simp only[wtT,wtL];omega
   | int=>simp only[wtT,wtL];omega
   | text=>simp only[wtT,wtL];omega
   | list _ L h0 h1=>
     have h2:=oH (2*32 ^ d) L (fun t ht=>ih t (h1 t ht))
     have h3:L.length*(2*32 ^ d)≤30*(2*32 ^ d):=Nat.mul_le_mul_right _ h0
     simp only[wtT]
     omega
theorem Cw.wt6 {t:T} (h:Cw 6 t):wtT t≤2147483648:=by
 have:=wi 6 t h
 have e:2*32 ^ 6=2147483648:=by decide
 omega
theorem Cw.parts {k n:Int} {s:ByteArray} {L:List T} (h:Cw 6 (.node k n s L)):s.size≤4000∧L.length≤30∧(-9223372036854775808≤n∧n≤9223372036854775807)∧wtL L≤2147483648:=by
 have hw:=h.wt6
 simp only[wtT] at hw
 have hi:=h.inT
 unfold InT at hi
 refine⟨?_,?_,hi.1,by omega⟩
 ·cases h with
  | null=>show 0≤4000;omega
  | bool=>show 0≤4000;omega
  | int=>show 0≤4000;omega
  | text _ _ h0=>exact h0
  | list=>show 0≤4000;omega
 ·cases h with
  | null=>simp
  | bool=>simp
  | int=>simp
  | text=>simp
  | list _ _ h0 _=>exact h0
theorem Cw.reck {t:T} (h:Cw 6 t):sT t:=by
 obtain⟨k,n,s,L⟩:=t
 obtain⟨h1,h2,h3,h4⟩:=h.parts
 exact⟨(aJ n).2 h3,h1,by omega,by omega⟩
theorem om (d:Nat) (b:Bool):Cw d (ei b):=.bool d _ (by cases b<;>simp)
theorem bK (d:Nat):Cw d aw:=.null d
theorem ql {t:T}:Cw 6 (cG t):=by
 obtain⟨k,n,s,L⟩:=t
 show Cw 6 (if k=1 then ei (n==0) else aw)
 split
 ·exact om _ _
 ·exact bK _
theorem qm {x y:T}:Cw 6 (cq x y):=by
 unfold cq cI
 have:=dk x y
 split
 ·exact .null _
 ·rename_i h
  refine .bool _ _ ?_
  rcases this with h1 | h1 | h1
  ·exact .inl h1
  ·exact .inr h1
  ·exact absurd h1 h
theorem tN {x y:T}:Cw 6 (cy x y):=by
 obtain⟨k,n,s,L⟩:=x
 obtain⟨k',n',s',L'⟩:=y
 unfold cy bz
 simp only
 split
 ·refine .bool _ _ ?_
  split
  ·exact .inr rfl
  ·exact .inl rfl
 ·exact .null _
theorem ul {L:List T} (h:∀t ∈ L,Cw 6 t):Cw 6 (hdT L):=by
 cases L with
 | nil=>exact bK _
 | cons t ts=>exact h t (N ..)
theorem iE (m:Int) (hm:m=0∨m=1) (all:Nat):∀(L:List T) (o:Nat),(∀t ∈ L,Cw 6 t)→Cw 6 (bA m all L o)
 | [],o,_=>by
   unfold bA
   split
   ·exact bK _
   ·exact .bool _ _ (by omega)
 | .node k n s Lt::r,o,h=>by
   show Cw 6 (if k=1 then (if n=m then .node k n s Lt else bA m all r (o+1)) else bA m all r o)
   have h1:=h _ (N ..)
   have h2:∀t ∈ r,Cw 6 t:=fun t ht=>h t (O _ ht)
   split
   ·split
    ·exact h1
    ·exact iE m hm all r _ h2
   ·exact iE m hm all r _ h2
theorem qn:∀(L:List T),(∀t ∈ L,Cw 6 t)→Cw 6 (ej L)
 | [],_=>bK _
 | .node k n s Lt::r,h=>by
   show Cw 6 (if k=0 then ej r else .node k n s Lt)
   split
   ·exact qn r fun t ht=>h t (O _ ht)
   ·exact h _ (N ..)
theorem pF (sg:UInt8) {x y:T} (hx:Cw 6 x) (hy:Cw 6 y):Cw 6 (f6 sg x y):=by
 obtain⟨k1,n1,s1,L1⟩:=x
 obtain⟨k2,n2,s2,L2⟩:=y
 rw[gu]
 split
 ·exact bK _
 ·split
  ·generalize (if sg=43 then n1+n2 else if sg=45 then n1-n2 else n1*n2)=z
   unfold aH
   split
   ·rename_i hf
    have:=(aJ z).1 hf
    exact .int _ _ this.1 this.2
   ·exact .null _
  ·split
   ·split
    ·exact .text _ _ (by rw[ByteArray.size_append];assumption)
    ·exact bK _
   ·split
    ·rename_i h4
     split
     ·rename_i h5
      obtain⟨_,rfl,rfl⟩:=h4
      cases hx with
      | list _ _ g0 g1=>
        cases hy with
        | list _ _ q0 q1=>
          refine .list _ _ (by rw[List.length_append];exact h5) fun t ht=>?_
          rcases List.mem_append.1 ht with ht | ht
          ·exact g1 t ht
          ·exact q1 t ht
     ·exact bK _
    ·exact bK _
theorem gZ {g:T→T→T} {L:List T} (h:∀t ∈ L,Cw 6 t) (hg:∀x y,Cw 6 x→Cw 6 y→Cw 6 (g x y)):Cw 6 (on2 g L):=by
 match L,h with
 | [],_=>exact bK _
 | [x],_=>exact bK _
 | x::y::r,h=>exact hg x y (h x (N ..)) (h y (O _ (N ..)))
theorem ny (s:ByteArray) (h:s.size≤4000):((Lib.runeCount s:Nat):Int)≤9223372036854775807:=by
 have:∀b p,Lib.runeCountFrom s b p≤b:=by
  intro b
  induction b with
  | zero=>intro p;simp[Lib.runeCountFrom]
  | succ b ih=>
    intro p
    unfold Lib.runeCountFrom
    split
    ·have:=ih (p+(Utf8.decode s p).2);omega
    ·omega
 have h2:=this s.size 0
 unfold Lib.runeCount
 omega
theorem wj (i:Nat) {L:List T} (h:∀t ∈ L,Cw 6 t):Cw 6 (opF i L):=by
 have hh:=ul h
 match i with
 | 0=>exact gZ h fun x y hx hy=>pF _ hx hy
 | 1=>exact gZ h fun x y hx hy=>pF _ hx hy
 | 2=>exact gZ h fun x y hx hy=>pF _ hx hy
 | 3=>exact gZ h fun x y _ _=>qm
 | 4=>exact gZ h fun x y _ _=>tN
 | 5=>exact gZ h fun x y _ _=>ql
 | 6=>exact ql
 | 7=>exact iE 1 (.inr rfl) _ L 0 h
 | 8=>exact iE 0 (.inl rfl) _ L 0 h
 | 9=>
   refine gZ h fun x y _ _=>?_
   obtain⟨k,n,s,Lt⟩:=y
   show Cw 6 (if k=4 then bG 1 (Lt.map (cq x)) else aw)
   split
   ·exact iE 1 (.inr rfl) _ (Lt.map (cq x)) 0 fun t ht=>by
     obtain⟨u,_,rfl⟩:=List.mem_map.1 ht
     exact qm
   ·exact bK _
 | 10=>
   show Cw 6 (fJ (hdT L))
   obtain⟨k,n,s,Lt⟩:=hdT L
   exact om _ _
 | 11=>
   show Cw 6 (ni (hdT L))
   generalize hdT L=u at hh
   obtain⟨k,n,s,Lt⟩:=u
   obtain⟨h1,h2,_,_⟩:=hh.parts
   show Cw 6 (if k=3 then eL (Lib.runeCount s) else if k=4 then eL Lt.length else aw)
   split
   ·exact .int _ _ (by omega) (ny s h1)
   ·split
    ·exact .int _ _ (by omega) (by omega)
    ·exact bK _
 | 12=>
   show Cw 6 (n6 (hdT L))
   generalize hdT L=u at hh
   obtain⟨k,n,s,Lt⟩:=u
   show Cw 6 (if k=4 then hdT Lt else aw)
   split
   ·rename_i hk
    subst hk
    cases hh with
    | list _ _ g0 g1=>exact ul fun t ht=>(g1 t ht).up
   ·exact bK _
 | 13=>exact qn L h
 | 14=>
   show Cw 6 (eI L)
   unfold eI
   split
   ·rename_i hc
    exact((jg _ _).1 hc).cw
   ·exact bK _
 | i+15=>exact hh
def fH (w:World) (bk:Nat):Prop:=∀(j:Nat) o,cJ[j]? = some o→w.heap[bk+j]? = some o
theorem fH.below {w w':World} {bk:Nat} (h:fH w bk) (k:Below w.heap.size w w'):fH w' bk:=fun j o hj=>(k.block _ (Array.getElem?_eq_some_iff.1 (h j o hj)).1).trans (h j o hj)
theorem fH.cell {w:World} {bk j:Nat} {v:Value} {t:TypeId} (h:fH w bk) (hj:cJ[j]? = some (M #[v] t)):bk+j<w.heap.size∧w.cell? ⟨bk+j,0,none⟩=some v:=by
 have hb:=h j _ hj
 exact⟨(Array.getElem?_eq_some_iff.1 hb).1,ac hb 0⟩
def pM (f:Value) (x:Value) (w:World) (Q:Ending→World→Prop):Prop:=∃F caps,f = .func (.func F) #[] caps∧Calls Tryz.prog F (#[x]++caps) w Q
theorem bq {F:Nat} {x:Value} {w:World} {Q:Ending→World→Prop} (h:Calls Tryz.prog F #[x] w Q):pM (fpl F) x w Q:=⟨F,#[],rfl,by simpa using h⟩
theorem eJ {F b:Nat} {x:Value} {w:World} {Q:Ending→World→Prop} (h:Calls Tryz.prog F #[x,U (some ⟨b,0,none⟩)] w Q):pM (fcl F b) x w Q:=⟨F,#[U (some ⟨b,0,none⟩)],rfl,by simpa using h⟩
theorem uI (A:Nat→Prop) (L:List T) (a:Option Addr) (l c:Nat) (w:World) (B:Nat) (hB:B≤w.heap.size) (hT:bD B w) (hL:ap A w L a l) (hlc:l≤c) (hcw:∀t ∈ L,Cw 6 t) (hn:L.length≤30) (bk:Nat) (hbx:fH w bk) (i:Nat) (hi:i≤15) (htk:an i = -1∨an i=L.length) :
 pM (jE bk i) (I a l c) w fun e w'=>aL A w w' (opF i L) e∧Below w.heap.size w w':=by
 have hlen:=hL.len.1
 have h2:an i=2→l=2:=fun h=>by rw[h] at htk;omega
 have h1:an i=1→l=1:=fun h=>by rw[h] at htk;omega
 have hwt:∀t ∈ L,wtT t≤1099511627000:=fun t ht=>by have:=(hcw t ht).wt6;omega
 have hrec:∀t ∈ L,sT t:=fun t ht=>(hcw t ht).reck
 have hll:∀t ∈ L,∀k n s Lt,t = .node k n s Lt→Lt.length≤1000:=fun t ht k n s Lt e=>by
  subst e
  have:=(hcw _ ht).parts.2.1
  omega
 have hsm:∀t ∈ L,∀k n s Lt,t = .node k n s Lt→s.size≤4000:=fun t ht k n s Lt e=>by
  subst e
  exact(hcw _ ht).parts.1
 match i,hi,h1,h2 with
 | 0,_,h1,h2=>obtain⟨g1,g2⟩:=hbx.cell (j:=0) rfl;exact eJ (mr A L a l c w hL (h2 rfl) 43 (.inl rfl) _ g1 g2 hrec)
 | 1,_,h1,h2=>obtain⟨g1,g2⟩:=hbx.cell (j:=1) rfl;exact eJ (mr A L a l c w hL (h2 rfl) 45 (.inr (.inl rfl)) _ g1 g2 hrec)
 | 2,_,h1,h2=>obtain⟨g1,g2⟩:=hbx.cell (j:=2) rfl;exact eJ (mr A L a l c w hL (h2 rfl) 42 (.inr (.inr rfl)) _ g1 g2 hrec)
 | 3,_,h1,h2=>exact bq (qU A L a l c w hL (h2 rfl) hwt)
 | 4,_,h1,h2=>exact bq (ri A L a l c w hL (h2 rfl) hwt)
 | 5,_,h1,h2=>exact bq (pm A L a l c w hL (h2 rfl) hwt)
 | 6,_,h1,h2=>exact bq (tA A L a l c w hL (h1 rfl))
 | 7,_,h1,h2=>obtain⟨g1,g2⟩:=hbx.cell (j:=3) rfl;exact eJ (kj A L a l c w hL 1 _ g1 g2 (by omega) (by omega))
 | 8,_,h1,h2=>obtain⟨g1,g2⟩:=hbx.cell (j:=4) rfl;exact eJ (kj A L a l c w hL 0 _ g1 g2 (by omega) (by omega))
 | 9,_,h1,h2=>exact bq (rJ A L a l c w hL (h2 rfl) hwt hll)
 | 10,_,h1,h2=>exact bq (sd A L a l c w hL (h1 rfl))
 | 11,_,h1,h2=>exact bq (rN A L a l c w hL (h1 rfl) hsm)
 | 12,_,h1,h2=>exact bq (sE A L a l c w hL (h1 rfl))
 | 13,_,h1,h2=>exact bq (sO A L a l c w hL (by omega))
 | 14,_,h1,h2=>exact bq (sn A L a l c w hL B hB hT (gB fun t ht=>(hcw t ht).inT) hlc)
 | 15,_,h1,h2=>exact bq (uW A L a l c w hL (h1 rfl))
 | i+16,hi,_,_=>omega
structure VR where
 k:Int
 n:Int
 s:ByteArray
 a:Option Addr
 l:Nat
 c:Nat
def VR.cells (x:VR):List Value:=[K J x.k,K J x.n,C x.s,I x.a x.l x.c]
def bR (xs:List VR):List Value:=(xs.map VR.cells).flatten
theorem dR (xs:List VR) (x:VR):bR (xs ++ [x])=bR xs++x.cells:=by simp[bR]
def VR.In (A:Nat→Prop) (w:World) (x:VR) (t:T):Prop:=∃L,t = .node x.k x.n x.s L∧x.s.size≤9223372036854775807∧x.l≤x.c∧ap A w L x.a x.l
theorem VR.In.kept {A A':Nat→Prop} {w w':World} {x:VR} {t:T} (h:VR.In A w x t) (hz:w.heap.size≤w'.heap.size) (k:∀i,A i→i<w.heap.size→A' i∧w'.heap[i]? = w.heap[i]?):VR.In A' w' x t:=by
 obtain⟨L,h1,h2,h3,h4⟩:=h
 exact⟨L,h1,h2,h3,ap.kept hz k _ _ _ h4⟩
theorem kf {A:Nat→Prop} {w:World} {g:Nat} (hA:A g) (hg:g<w.heap.size):∀(xs:List VR) (ts:List T) (off:Nat),aA (VR.In A w) xs ts→ts.length≤9223372036854775807→(∀i x,xs[i]? = some x→w.cell? ⟨g,off+i*4,none⟩=some (K J x.k)∧w.cell? ⟨g,off+i*4+1,none⟩=some (K J x.n)∧w.cell? ⟨g,off+i*4+2,none⟩=some (C x.s)∧w.cell? ⟨g,off+i*4+3,none⟩=some (I x.a x.l x.c))→ap A w ts (some ⟨g,off,none⟩) ts.length
 | xs,[],off,_,_,_=>by unfold ap;rfl
 | [],t::ts,off,h,_,_=>by have:=h.1;simp at this
 | x::xs,t::ts,off,h,hl,hc=>by
   have h0:=h.2 0 x t rfl rfl
   obtain⟨L,e,h1,h2,h3⟩:=h0
   obtain⟨q0,q1,q2,q3⟩:=hc 0 x rfl
   rw[Nat.zero_mul,Nat.add_zero] at q0 q1 q2 q3
   unfold ap
   refine⟨g,off,rfl,by simp,by simpa using hl,hA,hg,?_,?_⟩
   ·rw[e]
    unfold fE
    exact⟨h1,x.a,x.l,x.c,q0,q1,q2,q3,h2,h3⟩
   ·refine kf hA hg xs ts (off+4) ⟨by have:=h.1;simpa using this,fun i p y hp hy=>h.2 (i+1) p y (by simpa using hp) (by simpa using hy)⟩ (by simp at hl;omega) fun i y hy=>?_
    have:=hc (i+1) y (by simpa using hy)
    rw[show off+(i+1)*4=off+4+i*4 by omega] at this
    exact this
theorem dI {A:Nat→Prop} {w:World} {B n:Nat} {a:Option Addr} {l c:Nat} {xs:List VR} {ts:List T} (h:w.ownsRow B 30 4 (I a l c) xs.length (bR xs)) (hA:∀g,B≤g→A g) (hp:aA (VR.In A w) xs ts):l=ts.length∧l≤c∧ap A w ts a l:=by
 obtain⟨e1,e2,e3⟩:=ik h
 have e4:=hp.1
 refine⟨by omega,e2,?_⟩
 by_cases h0:0<xs.length
 ·obtain⟨g,hg,_,hb,hgl,hc⟩:=dQ h h0
  subst hg
  have:l=ts.length:=by omega
  rw[this]
  refine kf (hA g hb) hgl xs ts 0 hp (by omega) fun i x hx=>?_
  have f:=fun j u hu=>hc _ u (fh VR.cells 4 (fun _=>rfl) xs i j x u hx hu)
  have g0:=f 0 _ rfl
  have g1:=f 1 _ rfl
  have g2:=f 2 _ rfl
  have g3:=f 3 _ rfl
  exact⟨g0,g1,g2,g3⟩
 ·have ht:ts = []:=List.length_eq_zero_iff.1 (by omega)
  subst ht
  have:l=0:=by simp at e4;omega
  subst this
  exact df
def dr (w:World) (bm bk:Nat):Prop:=w.heap[bm]? = some (.map (aC bk).toArray 17)∧fH w bk
theorem dr.below {w w':World} {bm bk:Nat} (h:dr w bm bk) (k:Below w.heap.size w w'):dr w' bm bk:=⟨(k.block _ (Array.getElem?_eq_some_iff.1 h.1).1).trans h.1,h.2.below k⟩
def du:List (List UInt8):=[[109,97,116,99,104],[119,104,101,114,101],[114,101,116,117,114,110],[100,105,115,116,105,110,99,116],[97,115],[97,110,100],[111,114],[110,111,116],[105,110],[105,115],[110,117,108,108],[116,114,117,101],[102,97,108,115,101],[99,111,117,110,116],[115,117,109],[109,105,110],[109,97,120],[115,105,122,101],[104,101,97,100],[99,111,97,108,101,115,99,101],[105,100],[116,121,112,101]]
def bv (s:ByteArray):Bool:=du.any fun x=>s.toList==x
def cW (s:ByteArray):Bool:=nm s && !bv s
def aS (env:ByteArray→Option Th):Nat→Tm→Prop
 | 0,_=>False
 | d+1,.node k v nmx A=>
   (k≠1→v=aw) ∧
   ((k=1∧nmx.toList = []∧A = []∧kT0 v≠4∧Ck 6 v) ∨
    (k=2∧A = []∧cW nmx=true∧(env nmx).isSome=true) ∨
    (k=3∧nm nmx=true∧∃x,A = [x]∧x.kind=2∧aS env d x) ∨
    (k=4∧A.length≤30∧(∀x ∈ A,aS env d x)∧∃i,bN nmx=some i∧(an i = -1∨an i=A.length)∧(i=15→∃x r,A=x::r∧x.kind=2)∧(i=16→∃x r,A=x::r∧x.kind=2∧((env x.name).getD V).edge=true)))
where kT0:T→Int
 | .node k _ _ _=>k
def eK (env:ByteArray→Option Th):Prop:=∀s x,env s=some x→(-9223372036854775808≤x.id∧x.id≤9223372036854775807)∧x.typ.size≤4000∧∀p ∈ x.props,Ck 6 p.t
theorem ir {nmx:ByteArray} {i:Nat} (h:bN nmx=some i):i≤16:=by
 have:∀(ks:List (List UInt8)) (j i:Nat),fK nmx ks j=some i→i<j+ks.length:=by
  intro ks
  induction ks with
  | nil=>intro j i h;cases h
  | cons k ks ih=>
    intro j i h
    unfold fK at h
    split at h
    ·injection h with h;simp;omega
    ·have:=ih (j+1) i h;simp;omega
 have:=this dp 0 i h
 have e:dp.length=17:=rfl
 omega
theorem mH {env:ByteArray→Option Th} (he:eK env):∀(d:Nat) (t:Tm),aS env d t→Cw 6 (aI env d t)
 | 0,t,h=>h.elim
 | d+1,.node k v nmx A,h=>by
   obtain⟨_,h⟩:=h
   have hz:∀s,((env s).getD V).typ.size≤4000∧(-9223372036854775808≤((env s).getD V).id∧((env s).getD V).id≤9223372036854775807)∧∀p ∈ ((env s).getD V).props,Ck 6 p.t:=by
    intro s
    cases hx:env s with
    | none=>exact⟨by show 0≤4000;omega,by show(-9223372036854775808:Int)≤0∧(0:Int)≤_;omega,fun p hp=>by cases hp⟩
    | some x=>obtain⟨h1,h2,h3⟩:=he s x hx;exact⟨h2,h1,h3⟩
   rcases h with⟨rfl,_,_,_,hc⟩ | ⟨rfl,_,_,_⟩ | ⟨rfl,_,x,rfl,_,_⟩ | ⟨rfl,_,ha,i,hi,_,_,_⟩
   ·exact hc.cw
   ·exact .int _ _ (hz nmx).2.1.1 (hz nmx).2.1.2
   ·show Cw 6 (cR nmx ((env x.name).getD V))
    unfold cR
    cases hf:((env x.name).getD V).props.find? (fun p=>p.name.toList==nmx.toList) with
    | none=>exact bK _
    | some p=>exact((hz x.name).2.2 p (List.mem_of_find?_eq_some hf)).cw
   ·show Cw 6 (fj env A (A.map (aI env d)) (bN nmx))
    rw[hi]
    show Cw 6 (if i=16 then kH env (fun x=>.node 3 0 x.typ []) A else opF i (A.map (aI env d)))
    split
    ·cases A with
     | nil=>exact bK _
     | cons x r=>exact .text _ _ (hz x.name).1
    ·exact wj i fun t ht=>by
      obtain⟨y,hy,rfl⟩:=List.mem_map.1 ht
      exact mH he d y (ha y hy)
mutual
theorem bY.old {w:World}:∀(t:T) (b off:Nat),bY w t b off→fE (fun i=>i<w.heap.size) w t b off
 | .node k n s L,b,off,h=>by
   unfold bY at h
   unfold fE
   obtain⟨hs,a,l,c,h0,h1,h2,h3,h4,hL⟩:=h
   exact⟨hs,a,l,c,h0,h1,h2,h3,h4,am.old L a l hL⟩
theorem am.old {w:World}:∀(L:List T) (a:Option Addr) (l:Nat),am w L a l→ap (fun i=>i<w.heap.size) w L a l
 | [],_,_,h=>by unfold am at h;unfold ap;exact h
 | t::ts,a,l,h=>by
   unfold am at h
   unfold ap
   obtain⟨b,off,h1,h2,h3,h4,h5,h6⟩:=h
   exact⟨b,off,h1,h2,h3,h4,h4,bY.old t b off h5,am.old ts _ _ h6⟩
end
theorem eC (w:World):(zeroValue 78).run Tryz.prog w = .ok (R #[.bool false,K J 0,C ⟨#[]⟩,I none 0 0]) w:=by kernel_rfl
theorem sI (w:World) (e:Bool) (i:Int) (s:ByteArray) (a:Option Addr) (l c:Nat):(Instr.field 78 (R #[.bool e,K J i,C s,I a l c]) 1).run Tryz.prog w = .ok (K J i) w:=by kernel_rfl
theorem rx (w:World) (e:Bool) (i:Int) (s:ByteArray) (a:Option Addr) (l c:Nat):(Instr.field 78 (R #[.bool e,K J i,C s,I a l c]) 2).run Tryz.prog w = .ok (C s) w:=by kernel_rfl
theorem n9 (w:World) (e:Bool) (i:Int) (s:ByteArray) (a:Option Addr) (l c:Nat):(Instr.field 78 (R #[.bool e,K J i,C s,I a l c]) 3).run Tryz.prog w = .ok (I a l c) w:=by kernel_rfl
theorem eA {w0:World} {m:Nat} {env:ByteArray→Option Th} (hn:bI w0 m env) (s:ByteArray) (x:Th) (hx:env s=some x):∃P pa pl pc,x.typ.size≤9223372036854775807∧aX w0 P pa pl∧aA (eg fI w0) P x.props∧∀w,Below w0.heap.size w0 w→(Instr.lookup 50 (.map (some m)) (C s) false).run Tryz.prog w = .ok (R #[.bool x.edge,K J x.id,C x.typ,I pa pl pc]) w∧(Instr.lookup 50 (.map (some m)) (C s) true).run Tryz.prog w = .ok (W #[R #[.bool x.edge,K J x.id,C x.typ,I pa pl pc],.bool true]) w:=by
 obtain⟨es,clk,h1,h2,h3⟩:=hn
 have h4:=h3 s
 rw[hx] at h4
 obtain⟨v,q1,P,pa,pl,pc,q2,q3,q4,q5⟩:=h4
 refine⟨P,pa,pl,pc,q3,q4,q5,fun w k=>?_⟩
 have hm:w.heap[m]? = some (.map es clk):=(k.block m (Array.getElem?_eq_some_iff.1 h1).1).trans h1
 have r1:=bn (P:=Tryz.prog) (w:=w) Tryz.underlying50 Tryz.underlying9 hm h2 s (eC w) false
 have r2:=bn (P:=Tryz.prog) (w:=w) Tryz.underlying50 Tryz.underlying9 hm h2 s (eC w) true
 rw[q1,q2] at r1 r2
 exact⟨r1,r2⟩
theorem im (s:ByteArray) (w:World):Calls Tryz.prog 27 #[C s] w fun e w'=>e=S (.bool (bv s))∧w'=w:=by
 cases h0:(s.toList == [109,97,116,99,104]) with
 | true=>
   have e:bv s=true:=by simp only[bv,du,D,h0,G,E,H]
   rw[e]
   go_enter Tryz.func27,Tryz.ntmps27
   go_wp2_with fail
   exact bodyPost_ret (v:=.bool true) (by simp[results,Tryz.results27,go_sem]) rfl ⟨rfl,rfl⟩
 | false=>
  cases h1:(s.toList == [119,104,101,114,101]) with
  | true=>
    have e:bv s=true:=by simp only[bv,du,D,h0,h1,G,E,H]
    rw[e]
    go_enter Tryz.func27,Tryz.ntmps27
    go_wp2_with fail
    exact bodyPost_ret (v:=.bool true) (by simp[results,Tryz.results27,go_sem]) rfl ⟨rfl,rfl⟩
  | false=>
   cases h2:(s.toList == [114,101,116,117,114,110]) with
   | true=>
     have e:bv s=true:=by simp only[bv,du,D,h0,h1,h2,G,E,H]
     rw[e]
     go_enter Tryz.func27,Tryz.ntmps27
     go_wp2_with fail
     exact bodyPost_ret (v:=.bool true) (by simp[results,Tryz.results27,go_sem]) rfl ⟨rfl,rfl⟩
   | false=>
    cases h3:(s.toList == [100,105,115,116,105,110,99,116]) with
    | true=>
      have e:bv s=true:=by simp only[bv,du,D,h0,h1,h2,h3,G,E,H]
      rw[e]
      go_enter Tryz.func27,Tryz.ntmps27
      go_wp2_with fail
      exact bodyPost_ret (v:=.bool true) (by simp[results,Tryz.results27,go_sem]) rfl ⟨rfl,rfl⟩
    | false=>
     cases h4:(s.toList == [97,115]) with
     | true=>
       have e:bv s=true:=by simp only[bv,du,D,h0,h1,h2,h3,h4,G,E,H]
       rw[e]
       go_enter Tryz.func27,Tryz.ntmps27
       go_wp2_with fail
       exact bodyPost_ret (v:=.bool true) (by simp[results,Tryz.results27,go_sem]) rfl ⟨rfl,rfl⟩
     | false=>
      cases h5:(s.toList == [97,110,100]) with
      | true=>
        have e:bv s=true:=by simp only[bv,du,D,h0,h1,h2,h3,h4,h5,G,E,H]
        rw[e]
        go_enter Tryz.func27,Tryz.ntmps27
        go_wp2_with fail
        exact bodyPost_ret (v:=.bool true) (by simp[results,Tryz.results27,go_sem]) rfl ⟨rfl,rfl⟩
      | false=>
       cases h6:(s.toList == [111,114]) with
       | true=>
         have e:bv s=true:=by simp only[bv,du,D,h0,h1,h2,h3,h4,h5,h6,G,E,H]
         rw[e]
         go_enter Tryz.func27,Tryz.ntmps27
         go_wp2_with fail
         exact bodyPost_ret (v:=.bool true) (by simp[results,Tryz.results27,go_sem]) rfl ⟨rfl,rfl⟩
       | false=>
        cases h7:(s.toList == [110,111,116]) with
        | true=>
          have e:bv s=true:=by simp only[bv,du,D,h0,h1,h2,h3,h4,h5,h6,h7,G,E,H]
          rw[e]
          go_enter Tryz.func27,Tryz.ntmps27
          go_wp2_with fail
          exact bodyPost_ret (v:=.bool true) (by simp[results,Tryz.results27,go_sem]) rfl ⟨rfl,rfl⟩
        | false=>
         cases h8:(s.toList == [105,110]) with
         | true=>
           have e:bv s=true:=by simp only[bv,du,D,h0,h1,h2,h3,h4,h5,h6,h7,h8,G,E,H]
           rw[e]
           go_enter Tryz.func27,Tryz.ntmps27
           go_wp2_with fail
           exact bodyPost_ret (v:=.bool true) (by simp[results,Tryz.results27,go_sem]) rfl ⟨rfl,rfl⟩
         | false=>
          cases h9:(s.toList == [105,115]) with
          | true=>
            have e:bv s=true:=by simp only[bv,du,D,h0,h1,h2,h3,h4,h5,h6,h7,h8,h9,G,E,H]
            rw[e]
            go_enter Tryz.func27,Tryz.ntmps27
            go_wp2_with fail
            exact bodyPost_ret (v:=.bool true) (by simp[results,Tryz.results27,go_sem]) rfl ⟨rfl,rfl⟩
          | false=>
           cases h10:(s.toList == [110,117,108,108]) with
           | true=>
             have e:bv s=true:=by simp only[bv,du,D,h0,h1,h2,h3,h4,h5,h6,h7,h8,h9,h10,G,E,H]
             rw[e]
             go_enter Tryz.func27,Tryz.ntmps27
             go_wp2_with fail
             exact bodyPost_ret (v:=.bool true) (by simp[results,Tryz.results27,go_sem]) rfl ⟨rfl,rfl⟩
           | false=>
            cases h11:(s.toList == [116,114,117,101]) with
            | true=>
              have e:bv s=true:=by simp only[bv,du,D,h0,h1,h2,h3,h4,h5,h6,h7,h8,h9,h10,h11,G,E,H]
              rw[e]
              go_enter Tryz.func27,Tryz.ntmps27
              go_wp2_with fail
              exact bodyPost_ret (v:=.bool true) (by simp[results,Tryz.results27,go_sem]) rfl ⟨rfl,rfl⟩
            | false=>
             cases h12:(s.toList == [102,97,108,115,101]) with
             | true=>
               have e:bv s=true:=by simp only[bv,du,D,h0,h1,h2,h3,h4,h5,h6,h7,h8,h9,h10,h11,h12,G,E,H]
               rw[e]
               go_enter Tryz.func27,Tryz.ntmps27
               go_wp2_with fail
               exact bodyPost_ret (v:=.bool true) (by simp[results,Tryz.results27,go_sem]) rfl ⟨rfl,rfl⟩
             | false=>
              cases h13:(s.toList == [99,111,117,110,116]) with
              | true=>
                have e:bv s=true:=by simp only[bv,du,D,h0,h1,h2,h3,h4,h5,h6,h7,h8,h9,h10,h11,h12,h13,G,E,H]
                rw[e]
                go_enter Tryz.func27,Tryz.ntmps27
                go_wp2_with fail
                exact bodyPost_ret (v:=.bool true) (by simp[results,Tryz.results27,go_sem]) rfl ⟨rfl,rfl⟩
              | false=>
               cases h14:(s.toList == [115,117,109]) with
               | true=>
                 have e:bv s=true:=by simp only[bv,du,D,h0,h1,h2,h3,h4,h5,h6,h7,h8,h9,h10,h11,h12,h13,h14,G,E,H]
                 rw[e]
                 go_enter Tryz.func27,Tryz.ntmps27
                 go_wp2_with fail
                 exact bodyPost_ret (v:=.bool true) (by simp[results,Tryz.results27,go_sem]) rfl ⟨rfl,rfl⟩
               | false=>
                cases h15:(s.toList == [109,105,110]) with
                | true=>
                  have e:bv s=true:=by simp only[bv,du,D,h0,h1,h2,h3,h4,h5,h6,h7,h8,h9,h10,h11,h12,h13,h14,h15,G,E,H]
                  rw[e]
                  go_enter Tryz.func27,Tryz.ntmps27
                  go_wp2_with fail
                  exact bodyPost_ret (v:=.bool true) (by simp[results,Tryz.results27,go_sem]) rfl ⟨rfl,rfl⟩
                | false=>
                 cases h16:(s.toList == [109,97,120]) with
                 | true=>
                   have e:bv s=true:=by simp only[bv,du,D,h0,h1,h2,h3,h4,h5,h6,h7,h8,h9,h10,h11,h12,h13,h14,h15,h16,G,E,H]
                   rw[e]
                   go_enter Tryz.func27,Tryz.ntmps27
                   go_wp2_with fail
                   exact bodyPost_ret (v:=.bool true) (by simp[results,Tryz.results27,go_sem]) rfl ⟨rfl,rfl⟩
                 | false=>
                  cases h17:(s.toList == [115,105,122,101]) with
                  | true=>
                    have e:bv s=true:=by simp only[bv,du,D,h0,h1,h2,h3,h4,h5,h6,h7,h8,h9,h10,h11,h12,h13,h14,h15,h16,h17,G,E,H]
                    rw[e]
                    go_enter Tryz.func27,Tryz.ntmps27
                    go_wp2_with fail
                    exact bodyPost_ret (v:=.bool true) (by simp[results,Tryz.results27,go_sem]) rfl ⟨rfl,rfl⟩
                  | false=>
                   cases h18:(s.toList == [104,101,97,100]) with
                   | true=>
                     have e:bv s=true:=by simp only[bv,du,D,h0,h1,h2,h3,h4,h5,h6,h7,h8,h9,h10,h11,h12,h13,h14,h15,h16,h17,h18,G,E,H]
                     rw[e]
                     go_enter Tryz.func27,Tryz.ntmps27
                     go_wp2_with fail
                     exact bodyPost_ret (v:=.bool true) (by simp[results,Tryz.results27,go_sem]) rfl ⟨rfl,rfl⟩
                   | false=>
                    cases h19:(s.toList == [99,111,97,108,101,115,99,101]) with
                    | true=>
                      have e:bv s=true:=by simp only[bv,du,D,h0,h1,h2,h3,h4,h5,h6,h7,h8,h9,h10,h11,h12,h13,h14,h15,h16,h17,h18,h19,G,E,H]
                      rw[e]
                      go_enter Tryz.func27,Tryz.ntmps27
                      go_wp2_with fail
                      exact bodyPost_ret (v:=.bool true) (by simp[results,Tryz.results27,go_sem]) rfl ⟨rfl,rfl⟩
                    | false=>
                     cases h20:(s.toList == [105,100]) with
                     | true=>
                       have e:bv s=true:=by simp only[bv,du,D,h0,h1,h2,h3,h4,h5,h6,h7,h8,h9,h10,h11,h12,h13,h14,h15,h16,h17,h18,h19,h20,G,E,H]
                       rw[e]
                       go_enter Tryz.func27,Tryz.ntmps27
                       go_wp2_with fail
                       exact bodyPost_ret (v:=.bool true) (by simp[results,Tryz.results27,go_sem]) rfl ⟨rfl,rfl⟩
                     | false=>
                      cases h21:(s.toList == [116,121,112,101]) with
                      | true=>
                        have e:bv s=true:=by simp only[bv,du,D,h0,h1,h2,h3,h4,h5,h6,h7,h8,h9,h10,h11,h12,h13,h14,h15,h16,h17,h18,h19,h20,h21,G,E,H]
                        rw[e]
                        go_enter Tryz.func27,Tryz.ntmps27
                        go_wp2_with fail
                        exact bodyPost_ret (v:=.bool true) (by simp[results,Tryz.results27,go_sem]) rfl ⟨rfl,rfl⟩
                      | false=>
                       have e:bv s=false:=by simp only[bv,du,D,List.any_nil,h0,h1,h2,h3,h4,h5,h6,h7,h8,h9,h10,h11,h12,h13,h14,h15,h16,h17,h18,h19,h20,h21];rfl
                       rw[e]
                       go_enter Tryz.func27,Tryz.ntmps27
                       go_wp2_with fail
                       exact bodyPost_ret (v:=.bool false) (by simp[results,Tryz.results27,go_sem]) rfl ⟨rfl,rfl⟩
theorem i6 (s:ByteArray) (w:World) (hs:s.size≤9223372036854775807):Calls Tryz.prog 28 #[C s] w fun e w'=>e=S (.bool (cW s))∧Below w.heap.size w w':=by
 have HN:=aa (dv s w hs)
 go_enter Tryz.func28,Tryz.ntmps28
 go_wp2_with (go_at_call 62;refine HN.out.mono ?_)
 rintro e u1 ⟨rfl,k1⟩
 cases hn:nm s with
 | false=>
   go_wp2_with fail
   exact bodyPost_ret (v:=.bool false) (by simp[results,Tryz.results28,go_sem]) rfl ⟨aP (by simp[cW,hn]),k1⟩
 | true=>
   go_wp2_with (go_at_call 27;refine(im s u1).mono ?_)
   rintro e u2 ⟨rfl,rfl⟩
   go_wp2_with fail
   exact bodyPost_ret (v:=.bool (!bv s)) (by simp[results,Tryz.results28,go_sem]) rfl ⟨aP (by simp[cW,hn]),k1⟩
theorem m8 {env:ByteArray→Option Th} {B:Nat} (w0 w:World) (k vk vn:Int) (vs:ByteArray) (va:Option Addr) (vl vc:Nat) (nm:ByteArray) (a:Option Addr) (l c:Nat) (Lv:List T) (A:List Tm) (bm m bk:Nat) (hw:Below w0.heap.size w0 w) (hB:B≤w0.heap.size) (hT:bD B w0) (ht:bd w0 k vk vn vs va vl vc nm a l c Lv A) (hn:bI w0 m env) (hb:dr w0 bm bk) (hk:k=1):Calls Tryz.prog 18 #[.map (some bm),R #[K J k,K J vk,K J vn,C vs,I va vl vc,C nm,I a l c],.map (some m)] w fun e w'=>aL (fun i=>i<w0.heap.size) w w' (.node vk vn vs Lv) e∧Below w.heap.size w w':=by
 subst hk
 have hv:=am.old _ _ _ ht.val
 have HV:=aa (show ap (fun i=>i<w0.heap.size) w Lv va vl from ap.kept hw.size (fun i hi hl=>⟨hi,hw.block i hl⟩) _ _ _ hv)
 have HS:=aa ht.vss
 have HC:=aa ht.vlc
 clear ht hn hb hT hv
 go_enter Tryz.func18,Tryz.ntmps18
 go_wp2_with fail
 have hbb:Below w.heap.size w ((w.alloc (M #[K J 1,K J vk,K J vn,C vs,I va vl vc,C nm,I a l c] 33)).alloc (M #[K J vk,K J vn,C vs,I va vl vc] 30)):=((Below.refl _ _).alloc (Nat.le_refl _) _).alloc (by simp) _
 exact bodyPost_ret (v:=R #[K J vk,K J vn,C vs,I va vl vc]) (by simp[results,Tryz.results18,go_sem]) rfl ⟨⟨vk,vn,vs,va,vl,vc,Lv,rfl,rfl,HC.out,HS.out,ap.kept hbb.size (fun i hi hl=>⟨.inl hi,hbb.block i hl⟩) _ _ _ HV.out⟩,hbb⟩
theorem qM {env:ByteArray→Option Th} {B:Nat} (w0 w:World) (k vk vn:Int) (vs:ByteArray) (va:Option Addr) (vl vc:Nat) (nm:ByteArray) (a:Option Addr) (l c:Nat) (Lv:List T) (A:List Tm) (bm m bk:Nat) (hw:Below w0.heap.size w0 w) (hB:B≤w0.heap.size) (hT:bD B w0) (ht:bd w0 k vk vn vs va vl vc nm a l c Lv A) (hn:bI w0 m env) (hb:dr w0 bm bk) (hk:k=2) (x:Th) (hx:env nm=some x):Calls Tryz.prog 18 #[.map (some bm),R #[K J k,K J vk,K J vn,C vs,I va vl vc,C nm,I a l c],.map (some m)] w fun e w'=>aL (fun i=>i<w0.heap.size) w w' (eL x.id) e∧Below w.heap.size w w':=by
 subst hk
 obtain⟨P,pa,pl,pc,-,-,-,hlk⟩:=eA hn nm x hx
 have hb2:Below w.heap.size w ((w.alloc (M #[K J 2,K J vk,K J vn,C vs,I va vl vc,C nm,I a l c] 33)).alloc (M #[K J 0,K J 0,C ⟨#[]⟩,I none 0 0] 30)):=((Below.refl _ _).alloc (Nat.le_refl _) _).alloc (by simp) _
 have hw2:Below w0.heap.size w0 ((w.alloc (M #[K J 2,K J vk,K J vn,C vs,I va vl vc,C nm,I a l c] 33)).alloc (M #[K J 0,K J 0,C ⟨#[]⟩,I none 0 0] 30)):=hw.trans (hb2.mono hw.size)
 have hr2:=ay w (M #[K J 2,K J vk,K J vn,C vs,I va vl vc,C nm,I a l c] 33) (M #[K J 0,K J 0,C ⟨#[]⟩,I none 0 0] 30)
 have hz2:((w.alloc (M #[K J 2,K J vk,K J vn,C vs,I va vl vc,C nm,I a l c] 33)).alloc (M #[K J 0,K J 0,C ⟨#[]⟩,I none 0 0] 30)).heap.size=w.heap.size+2:=by simp
 have hl0:=(hlk _ hw2).1
 have hl1:=sI ((w.alloc (M #[K J 2,K J vk,K J vn,C vs,I va vl vc,C nm,I a l c] 33)).alloc (M #[K J 0,K J 0,C ⟨#[]⟩,I none 0 0] 30)) x.edge x.id x.typ pa pl pc
 clear ht hn hb hT hlk hw2 hb2 hr2 hz2
 go_enter Tryz.func18,Tryz.ntmps18
 go_wp2_with fail
 have hbb:Below w.heap.size w ((w.alloc (M #[K J 2,K J vk,K J vn,C vs,I va vl vc,C nm,I a l c] 33)).alloc (M #[K J 2,K J x.id,C ⟨#[]⟩,I none 0 0] 30)):=((Below.refl _ _).alloc (Nat.le_refl _) _).alloc (by simp) _
 exact bodyPost_ret (v:=R #[K J 2,K J x.id,C ⟨#[]⟩,I none 0 0]) (by simp[results,Tryz.results18,go_sem]) rfl ⟨aL.flat _ _ _ (by decide),hbb⟩
end Go.Proofs.YtijjpoohhgapoaaGreatDoor

import Derived.Test.YtijjpoohhgapoaaGreatDoorVQAB
namespace Go.Proofs.YtijjpoohhgapoaaGreatDoor
open Go.RowKit
set_option linter.unusedVariables false
set_option maxHeartbeats 4000000
set_option maxRecDepth 100000
open IntKind renaming i64 → A
open Value renaming int → B, slice → E, tuple → H, pointer → I, string → J, agg → K
open Nat renaming le_refl → C, lt_of_lt_of_le → F
open Ending renaming returned → D
open RowKit.Below renaming refl → G
structure Nd where
 id:Int
 labs:List ByteArray
 la:Option Addr
 ll:Nat
 lc:Nat
 props:List Pr
 pa:Option Addr
 pl:Nat
 pc:Nat
structure Ed where
 id:Int
 frm:Int
 dst:Int
 typ:ByteArray
 props:List Pr
 pa:Option Addr
 pl:Nat
 pc:Nat
def Nd.val (x:Nd):Value:=K #[B A x.id,E x.la x.ll x.lc,E x.pa x.pl x.pc]
def Ed.val (x:Ed):Value:=K #[B A x.id,B A x.frm,B A x.dst,J x.typ,E x.pa x.pl x.pc]
def bF (w:World) (L:List Nd) (a:Option Addr) (l:Nat):Prop:=
 l=L.length∧l≤9223372036854775807∧(0<l→∃b off,a=some ⟨b,off,none⟩∧b<w.heap.size∧∀i x,L[i]? = some x→w.cell? ⟨b,off+i*3,none⟩=some (B A x.id)∧w.cell? ⟨b,off+i*3+1,none⟩=some (E x.la x.ll x.lc)∧w.cell? ⟨b,off+i*3+1+1,none⟩=some (E x.pa x.pl x.pc))
def bO (w:World) (L:List Ed) (a:Option Addr) (l:Nat):Prop:=
 l=L.length∧l≤9223372036854775807∧(0<l→∃b off,a=some ⟨b,off,none⟩∧b<w.heap.size∧∀i x,L[i]? = some x→x.typ.size≤9223372036854775807∧w.cell? ⟨b,off+i*5,none⟩=some (B A x.id)∧w.cell? ⟨b,off+i*5+1,none⟩=some (B A x.frm)∧w.cell? ⟨b,off+i*5+1+1,none⟩=some (B A x.dst)∧w.cell? ⟨b,off+i*5+1+1+1,none⟩=some (J x.typ)∧w.cell? ⟨b,off+i*5+1+1+1+1,none⟩=some (E x.pa x.pl x.pc))
theorem bF.below {w w':World} (k:Below w.heap.size w w') {L:List Nd} {a:Option Addr} {l:Nat} (h:bF w L a l):bF w' L a l:=by
 obtain⟨h1,h2,h3⟩:=h
 refine⟨h1,h2,fun h0=>?_⟩
 obtain⟨b,off,ha,hb,hc⟩:=h3 h0
 refine⟨b,off,ha,F hb k.size,fun i s hs=>?_⟩
 have q:∀o,w'.cell? ⟨b,o,none⟩=w.cell? ⟨b,o,none⟩:=fun o=>k.cell (p:=⟨b,o,none⟩) hb
 obtain⟨d0,d1,d2⟩:=hc i s hs
 exact⟨(q _).trans d0,(q _).trans d1,(q _).trans d2⟩
theorem bO.below {w w':World} (k:Below w.heap.size w w') {L:List Ed} {a:Option Addr} {l:Nat} (h:bO w L a l):bO w' L a l:=by
 obtain⟨h1,h2,h3⟩:=h
 refine⟨h1,h2,fun h0=>?_⟩
 obtain⟨b,off,ha,hb,hc⟩:=h3 h0
 refine⟨b,off,ha,F hb k.size,fun i s hs=>?_⟩
 have q:∀o,w'.cell? ⟨b,o,none⟩=w.cell? ⟨b,o,none⟩:=fun o=>k.cell (p:=⟨b,o,none⟩) hb
 obtain⟨c0,d0,d1,d2,d3,d4⟩:=hc i s hs
 exact⟨c0,(q _).trans d0,(q _).trans d1,(q _).trans d2,(q _).trans d3,(q _).trans d4⟩
def ez (ids:List Int):Prop:=∀(i j:Nat) (x y:Int),i<j→ids[i]? = some x→ids[j]? = some y→x<y
def dy (ids:List Int) (t:Int) (e:Ending):Prop:=∃(i:Nat) (f:Bool),e=D (H #[B A i,.bool f])∧(f=true→ids[i]? = some t)∧(f=false→t ∉ ids)
def ey (a b:Int):Int:=if a<b then -1 else if b<a then 1 else 0
theorem mv (n:Int) (w:World):Calls Tryz.prog 136 #[B A n] w fun e w'=>e=D (.bool false)∧w'=w:=by
 go_enter Tryz.func136,Tryz.ntmps136
 go_wp2
 go_ret
 exact⟨by simp,rfl⟩
theorem go (a b:Int) (w:World):Calls Tryz.prog 116 #[B A a,B A b] w fun e w'=>e=D (B A (ey a b))∧w'=w:=by
 obtain⟨z,hz⟩:∃z,z=ey a b:=⟨_,rfl⟩
 rw[←hz]
 have HZ:=aa hz
 clear hz
 by_cases h1:a<b
 ·have H3:=aa (show z = -1 by rw[HZ.out,ey,if_pos h1])
  clear HZ
  go_enter Tryz.func116,Tryz.ntmps116
  go_wp2_with (go_at_call 136;refine(mv _ _).mono ?_;rintro e w' ⟨rfl,rfl⟩)
  go_ret
  exact⟨ag (by rw[H3.out]),rfl⟩
 ·by_cases h2:b<a
  ·have H3:=aa (show z=1 by rw[HZ.out,ey,if_neg h1,if_pos h2])
   clear HZ
   have h2':a>b:=h2
   go_enter Tryz.func116,Tryz.ntmps116
   go_wp2_with (go_at_call 136;refine(mv _ _).mono ?_;rintro e w' ⟨rfl,rfl⟩)
   go_ret
   exact⟨ag (by rw[H3.out]),rfl⟩
  ·have H3:=aa (show z=0 by rw[HZ.out,ey,if_neg h1,if_neg h2])
   clear HZ
   go_enter Tryz.func116,Tryz.ntmps116
   go_wp2_with (go_at_call 136;refine(mv _ _).mono ?_;rintro e w' ⟨rfl,rfl⟩)
   go_ret
   exact⟨ag (by rw[H3.out]),rfl⟩
theorem tB (x:Nd) (w:World):Calls Tryz.prog 109 #[x.val] w fun e w'=>e=D (B A x.id)∧Below w.heap.size w w':=by
 unfold Nd.val
 go_enter Tryz.func109,Tryz.ntmps109
 go_wp2
 go_ret
 exact⟨rfl,(G _ _).alloc (C _) _⟩
theorem nR (x:Nd) (t:Int) (q:Nat) (w:World) (hq:w.cell? ⟨q,0,none⟩=some (.func (.func 109) #[] #[])) (hq2:q<w.heap.size):Calls Tryz.prog 131 #[x.val,B A t,I (some ⟨q,0,none⟩)] w fun e w'=>e=D (B A (ey x.id t))∧Below w.heap.size w w':=by
 have HI:Hid (∀W,Calls Tryz.prog 109 #[x.val] W fun e w'=>e=D (B A x.id)∧Below W.heap.size W w'):=fun W=>tB x W
 have hv:x.val=x.val:=rfl
 unfold Nd.val at hv HI ⊢
 clear hv
 go_enter Tryz.func131,Tryz.ntmps131
 go_wp2_with fail
 refine(HI.out _).mono ?_
 rintro e w1 ⟨rfl,k1⟩
 have hb1:Below w.heap.size w w1:=((G _ _).alloc (C _) _).trans (k1.mono (by simp))
 clear k1
 go_wp2_with (go_at_call 116;refine(go _ _ _).mono ?_;rintro e w' ⟨rfl,rfl⟩)
 go_ret
 exact⟨rfl,hb1⟩
theorem nQ (L:List Nd) (a:Option Addr) (l c:Nat) (t:Int) (q:Nat) (w:World) (hq:w.cell? ⟨q,0,none⟩=some (.func (.func 109) #[] #[])) (hq2:q<w.heap.size) (h:bF w L a l) (h60:l≤60) (hr:ez (L.map Nd.id)) :
 Calls Tryz.prog 130 #[E a l c,B A t,.func (.func 131) #[] #[I (some ⟨q,0,none⟩)]] w fun e w'=>dy (L.map Nd.id) t e∧Below w.heap.size w w':=by
 obtain⟨hl,hmx,hat⟩:=h
 have HAT:=aa hat
 have HL:=aa hl
 have HRI:=aa hr
 have HQ:=aa hq
 have HQ2:=aa hq2
 clear hat hl hr hq hq2
 go_enter Tryz.func130,Tryz.ntmps130
 go_wp2_with fail
 go_loopg [9,10] l (fun g s9 s10 wr=>∃(i j:Nat),i≤j∧j≤l∧j-i≤g∧s9=B A i∧s10=B A j∧Below w.heap.size w wr∧(∀k x,k<i→L[k]? = some x→x.id<t)∧(∀k x,j≤k→L[k]? = some x→t≤x.id))
 case atStart=>exact⟨0,l,Nat.zero_le _,C _,by omega,rfl,rfl,G _ _,(fun k x hk=>absurd hk (Nat.not_lt_zero _)),(fun k x hk hx=>by rw[List.getElem?_eq_none (by have:=HL.out;omega)] at hx;cases hx)⟩
 case round=>
  obtain⟨i,j,hij,hjl,hg,rfl,rfl,hbw,hlo,hhi⟩:=hrel
  have HLO:=aa hlo
  have HHI:=aa hhi
  clear hlo hhi
  by_cases hlt:i<j
  ·obtain⟨m,hm⟩:∃m,m=(i+j) / 2:=⟨_,rfl⟩
   have hmi:((i:Int)+(j:Int)) / 2=(m:Int):=by omega
   have him:i≤m:=by omega
   have hmj:m<j:=by omega
   have HM:=aa hm
   clear hm
   obtain⟨b,off,ha,hb,hc⟩:=HAT.out (by omega)
   subst ha
   obtain⟨x,hx,_⟩:=aF (L:=L) (i:=m) (by have:=HL.out;omega)
   obtain⟨c0,c1,c2⟩:=hc m x hx
   have qc:∀o,wr.cell? ⟨b,o,none⟩=w.cell? ⟨b,o,none⟩:=fun o=>hbw.cell (p:=⟨b,o,none⟩) hb
   have d0:=(qc _).trans c0
   have d1:=(qc _).trans c1
   have d2:=(qc _).trans c2
   clear c0 c1 c2 qc
   have HX:=aa hx
   clear hc hx
   have hml:(m:Int)<l:=by omega
   go_wp2_with fail
   refine(nR x t q _ ((hbw.cell (p:=⟨q,0,none⟩) HQ2.out).trans HQ.out) (F HQ2.out hbw.size)).mono ?_
   rintro e w1 ⟨rfl,k1⟩
   have hb1:=hbw.trans (k1.mono hbw.size)
   clear k1 d0 d1 d2
   by_cases hxt:x.id<t
   ·have hcm:ey x.id t = -1:=by rw[ey,if_pos hxt]
    have HXT:=aa hxt
    clear hxt
    go_wp2_with fail
    go_roundg (j-(m+1))
    case measure=>omega
    case rel=>
     refine⟨m+1,j,by omega,hjl,C _,by go_num,rfl,hb1,fun k y hk hy=>?_,HHI.out⟩
     by_cases hkm:k=m
     ·subst hkm
      rw[HX.out] at hy
      injection hy with hy
      subst hy
      exact HXT.out
     ·have:=HRI.out k m y.id x.id (by omega) (by rw[List.getElem?_map,hy];rfl) (by rw[List.getElem?_map,HX.out];rfl)
      have:=HXT.out
      omega
   ·have hcm:¬ey x.id t<0:=by
     rw[ey,if_neg hxt]
     split<;>omega
    have HXT:=aa hxt
    clear hxt
    go_wp2_with fail
    go_roundg (m-i)
    case measure=>omega
    case rel=>
     refine⟨i,m,him,by omega,C _,rfl,rfl,hb1,HLO.out,fun k y hk hy=>?_⟩
     by_cases hkm:k=m
     ·subst hkm
      rw[HX.out] at hy
      injection hy with hy
      subst hy
      have:=HXT.out
      omega
     ·have:=HRI.out m k x.id y.id (by omega) (by rw[List.getElem?_map,HX.out];rfl) (by rw[List.getElem?_map,hy];rfl)
      have:=HXT.out
      omega
  ·have hjj:j=i:=by omega
   subst hjj
   by_cases hil:j<l
   ·obtain⟨b,off,ha,hb,hc⟩:=HAT.out (by omega)
    subst ha
    obtain⟨x,hx,_⟩:=aF (L:=L) (i:=j) (by have:=HL.out;omega)
    obtain⟨c0,c1,c2⟩:=hc j x hx
    have qc:∀o,wr.cell? ⟨b,o,none⟩=w.cell? ⟨b,o,none⟩:=fun o=>hbw.cell (p:=⟨b,o,none⟩) hb
    have d0:=(qc _).trans c0
    have d1:=(qc _).trans c1
    have d2:=(qc _).trans c2
    clear c0 c1 c2 qc
    have HX:=aa hx
    clear hc hx
    have hml:(j:Int)<l:=by omega
    go_wp2_with fail
    refine(nR x t q _ ((hbw.cell (p:=⟨q,0,none⟩) HQ2.out).trans HQ.out) (F HQ2.out hbw.size)).mono ?_
    rintro e w1 ⟨rfl,k1⟩
    have hb1:=hbw.trans (k1.mono hbw.size)
    clear k1 d0 d1 d2
    by_cases hxt:x.id=t
    ·have hcm:ey x.id t=0:=by rw[ey,if_neg (by omega),if_neg (by omega)]
     have HXT:=aa hxt
     clear hxt
     go_wp2_with fail
     refine bodyPost_ret (v:=H #[B A j,.bool true]) (by simp[results,Tryz.results130,go_sem]) rfl ⟨⟨j,true,rfl,fun _=>(by rw[List.getElem?_map,HX.out,←HXT.out];rfl),fun h=>by cases h⟩,hb1⟩
    ·have hcm:(ey x.id t==0)=false:=by
      rw[ey]
      split
      ·rfl
      ·rw[if_pos (by omega)];rfl
     have HXT:=aa hxt
     clear hxt
     go_wp2_with fail
     refine bodyPost_ret (v:=H #[B A j,.bool false]) (by simp[results,Tryz.results130,go_sem]) rfl ⟨⟨j,false,rfl,fun h=>by (cases h),fun _ hin=>?_⟩,hb1⟩
     obtain⟨y,hy,hyt⟩:=List.mem_map.1 hin
     obtain⟨k,hk⟩:=List.getElem?_of_mem hy
     rcases Nat.lt_or_ge k j with h | h
     ·have:=HLO.out k y h hk
      omega
     ·by_cases hkj:k=j
      ·subst hkj
       rw[HX.out] at hk
       injection hk with hk
       subst hk
       exact HXT.out hyt
      ·have h1:=HRI.out j k x.id y.id (by omega) (by rw[List.getElem?_map,HX.out];rfl) (by rw[List.getElem?_map,hk];rfl)
       have h2:=HHI.out j x (C _) HX.out
       omega
   ·have hml:¬(j:Int)<l:=by omega
    go_wp2_with fail
    refine bodyPost_ret (v:=H #[B A j,.bool false]) (by simp[results,Tryz.results130,go_sem]) rfl ⟨⟨j,false,rfl,fun h=>by (cases h),fun _ hin=>?_⟩,hbw⟩
    obtain⟨y,hy,hyt⟩:=List.mem_map.1 hin
    obtain⟨k,hk⟩:=List.getElem?_of_mem hy
    have hkl:k<L.length:=(List.getElem?_eq_some_iff.1 hk).1
    have:=HLO.out k y (by have:=HL.out;omega) hk
    omega
theorem pd (L:List Nd) (a:Option Addr) (l c:Nat) (t:Int) (w:World) (h:bF w L a l) (h60:l≤60) (hr:ez (L.map Nd.id)) :
 Calls Tryz.prog 108 #[E a l c,B A t,(.func (.func 109) #[] #[])] w fun e w'=>dy (L.map Nd.id) t e∧Below w.heap.size w w':=by
 have HC:Hid (∀(q:Nat) (W:World),Below w.heap.size w W→W.cell? ⟨q,0,none⟩=some (.func (.func 109) #[] #[])→q<W.heap.size→Calls Tryz.prog 130 #[E a l c,B A t,.func (.func 131) #[] #[I (some ⟨q,0,none⟩)]] W fun e w'=>dy (L.map Nd.id) t e∧Below W.heap.size W w'):=fun q W k hq hq2=>nQ L a l c t q W hq hq2 (h.below k) h60 hr
 clear h hr
 go_enter Tryz.func108,Tryz.ntmps108
 go_wp2_with fail
 refine(HC.out _ _ ((G _ _).alloc (C _) _) (by simp) (by simp)).mono ?_
 rintro e w1 ⟨⟨i,f,rfl,h1,h2⟩,k1⟩
 have H1:=aa h1
 have H2:=aa h2
 have hb1:Below w.heap.size w w1:=((G _ _).alloc (C _) _).trans (k1.mono (by simp))
 clear h1 h2 k1
 go_wp2_with fail
 exact bodyPost_ret (v:=H #[B A i,.bool f]) (by simp[results,Tryz.results108,go_sem]) rfl ⟨⟨i,f,rfl,H1.out,H2.out⟩,hb1⟩
theorem lM (L:List Nd) (a:Option Addr) (l c:Nat) (t:Int) (w:World) (h:bF w L a l) (h60:l≤60) (hr:ez (L.map Nd.id)) :
 Calls Tryz.prog 74 #[E a l c,B A t] w fun e w'=>dy (L.map Nd.id) t e∧Below w.heap.size w w':=by
 have HC:=aa (pd L a l c t w h h60 hr)
 clear h hr
 go_enter Tryz.func74,Tryz.ntmps74
 go_wp2_with fail
 refine HC.out.mono ?_
 rintro e w1 ⟨⟨i,f,rfl,h1,h2⟩,k1⟩
 have H1:=aa h1
 have H2:=aa h2
 clear h1 h2
 go_wp2_with fail
 exact bodyPost_ret (v:=H #[B A i,.bool f]) (by simp[results,Tryz.results74,go_sem]) rfl ⟨⟨i,f,rfl,H1.out,H2.out⟩,k1⟩
theorem tM (x:Ed) (w:World):Calls Tryz.prog 111 #[x.val] w fun e w'=>e=D (B A x.id)∧Below w.heap.size w w':=by
 unfold Ed.val
 go_enter Tryz.func111,Tryz.ntmps111
 go_wp2
 go_ret
 exact⟨rfl,(G _ _).alloc (C _) _⟩
theorem oi (x:Ed) (t:Int) (q:Nat) (w:World) (hq:w.cell? ⟨q,0,none⟩=some (.func (.func 111) #[] #[])) (hq2:q<w.heap.size):Calls Tryz.prog 133 #[x.val,B A t,I (some ⟨q,0,none⟩)] w fun e w'=>e=D (B A (ey x.id t))∧Below w.heap.size w w':=by
 have HI:Hid (∀W,Calls Tryz.prog 111 #[x.val] W fun e w'=>e=D (B A x.id)∧Below W.heap.size W w'):=fun W=>tM x W
 have hv:x.val=x.val:=rfl
 unfold Ed.val at hv HI ⊢
 clear hv
 go_enter Tryz.func133,Tryz.ntmps133
 go_wp2_with fail
 refine(HI.out _).mono ?_
 rintro e w1 ⟨rfl,k1⟩
 have hb1:Below w.heap.size w w1:=((G _ _).alloc (C _) _).trans (k1.mono (by simp))
 clear k1
 go_wp2_with (go_at_call 116;refine(go _ _ _).mono ?_;rintro e w' ⟨rfl,rfl⟩)
 go_ret
 exact⟨rfl,hb1⟩
theorem oh (L:List Ed) (a:Option Addr) (l c:Nat) (t:Int) (q:Nat) (w:World) (hq:w.cell? ⟨q,0,none⟩=some (.func (.func 111) #[] #[])) (hq2:q<w.heap.size) (h:bO w L a l) (h60:l≤60) (hr:ez (L.map Ed.id)) :
 Calls Tryz.prog 132 #[E a l c,B A t,.func (.func 133) #[] #[I (some ⟨q,0,none⟩)]] w fun e w'=>dy (L.map Ed.id) t e∧Below w.heap.size w w':=by
 obtain⟨hl,hmx,hat⟩:=h
 have HAT:=aa hat
 have HL:=aa hl
 have HRI:=aa hr
 have HQ:=aa hq
 have HQ2:=aa hq2
 clear hat hl hr hq hq2
 go_enter Tryz.func132,Tryz.ntmps132
 go_wp2_with fail
 go_loopg [9,10] l (fun g s9 s10 wr=>∃(i j:Nat),i≤j∧j≤l∧j-i≤g∧s9=B A i∧s10=B A j∧Below w.heap.size w wr∧(∀k x,k<i→L[k]? = some x→x.id<t)∧(∀k x,j≤k→L[k]? = some x→t≤x.id))
 case atStart=>exact⟨0,l,Nat.zero_le _,C _,by omega,rfl,rfl,G _ _,(fun k x hk=>absurd hk (Nat.not_lt_zero _)),(fun k x hk hx=>by rw[List.getElem?_eq_none (by have:=HL.out;omega)] at hx;cases hx)⟩
 case round=>
  obtain⟨i,j,hij,hjl,hg,rfl,rfl,hbw,hlo,hhi⟩:=hrel
  have HLO:=aa hlo
  have HHI:=aa hhi
  clear hlo hhi
  by_cases hlt:i<j
  ·obtain⟨m,hm⟩:∃m,m=(i+j) / 2:=⟨_,rfl⟩
   have hmi:((i:Int)+(j:Int)) / 2=(m:Int):=by omega
   have him:i≤m:=by omega
   have hmj:m<j:=by omega
   have HM:=aa hm
   clear hm
   obtain⟨b,off,ha,hb,hc⟩:=HAT.out (by omega)
   subst ha
   obtain⟨x,hx,_⟩:=aF (L:=L) (i:=m) (by have:=HL.out;omega)
   obtain⟨_,c0,c1,c2,c3,c4⟩:=hc m x hx
   have qc:∀o,wr.cell? ⟨b,o,none⟩=w.cell? ⟨b,o,none⟩:=fun o=>hbw.cell (p:=⟨b,o,none⟩) hb
   have d0:=(qc _).trans c0
   have d1:=(qc _).trans c1
   have d2:=(qc _).trans c2
   have d3:=(qc _).trans c3
   have d4:=(qc _).trans c4
   clear c0 c1 c2 c3 c4 qc
   have HX:=aa hx
   clear hc hx
   have hml:(m:Int)<l:=by omega
   go_wp2_with fail
   refine(oi x t q _ ((hbw.cell (p:=⟨q,0,none⟩) HQ2.out).trans HQ.out) (F HQ2.out hbw.size)).mono ?_
   rintro e w1 ⟨rfl,k1⟩
   have hb1:=hbw.trans (k1.mono hbw.size)
   clear k1 d0 d1 d2 d3 d4
   by_cases hxt:x.id<t
   ·have hcm:ey x.id t = -1:=by rw[ey,if_pos hxt]
    have HXT:=aa hxt
    clear hxt
    go_wp2_with fail
    go_roundg (j-(m+1))
    case measure=>omega
    case rel=>
     refine⟨m+1,j,by omega,hjl,C _,by go_num,rfl,hb1,fun k y hk hy=>?_,HHI.out⟩
     by_cases hkm:k=m
     ·subst hkm
      rw[HX.out] at hy
      injection hy with hy
      subst hy
      exact HXT.out
     ·have:=HRI.out k m y.id x.id (by omega) (by rw[List.getElem?_map,hy];rfl) (by rw[List.getElem?_map,HX.out];rfl)
      have:=HXT.out
      omega
   ·have hcm:¬ey x.id t<0:=by
     rw[ey,if_neg hxt]
     split<;>omega
    have HXT:=aa hxt
    clear hxt
    go_wp2_with fail
    go_roundg (m-i)
    case measure=>omega
    case rel=>
     refine⟨i,m,him,by omega,C _,rfl,rfl,hb1,HLO.out,fun k y hk hy=>?_⟩
     by_cases hkm:k=m
     ·subst hkm
      rw[HX.out] at hy
      injection hy with hy
      subst hy
      have:=HXT.out
      omega
     ·have:=HRI.out m k x.id y.id (by omega) (by rw[List.getElem?_map,HX.out];rfl) (by rw[List.getElem?_map,hy];rfl)
      have:=HXT.out
      omega
  ·have hjj:j=i:=by omega
   subst hjj
   by_cases hil:j<l
   ·obtain⟨b,off,ha,hb,hc⟩:=HAT.out (by omega)
    subst ha
    obtain⟨x,hx,_⟩:=aF (L:=L) (i:=j) (by have:=HL.out;omega)
    obtain⟨_,c0,c1,c2,c3,c4⟩:=hc j x hx
    have qc:∀o,wr.cell? ⟨b,o,none⟩=w.cell? ⟨b,o,none⟩:=fun o=>hbw.cell (p:=⟨b,o,none⟩) hb
    have d0:=(qc _).trans c0
    have d1:=(qc _).trans c1
    have d2:=(qc _).trans c2
    have d3:=(qc _).trans c3
    have d4:=(qc _).trans c4
    clear c0 c1 c2 c3 c4 qc
    have HX:=aa hx
    clear hc hx
    have hml:(j:Int)<l:=by omega
    go_wp2_with fail
    refine(oi x t q _ ((hbw.cell (p:=⟨q,0,none⟩) HQ2.out).trans HQ.out) (F HQ2.out hbw.size)).mono ?_
    rintro e w1 ⟨rfl,k1⟩
    have hb1:=hbw.trans (k1.mono hbw.size)
    clear k1 d0 d1 d2 d3 d4
    by_cases hxt:x.id=t
    ·have hcm:ey x.id t=0:=by rw[ey,if_neg (by omega),if_neg (by omega)]
     have HXT:=aa hxt
     clear hxt
     go_wp2_with fail
     refine bodyPost_ret (v:=H #[B A j,.bool true]) (by simp[results,Tryz.results132,go_sem]) rfl ⟨⟨j,true,rfl,fun _=>(by rw[List.getElem?_map,HX.out,←HXT.out];rfl),fun h=>by cases h⟩,hb1⟩
    ·have hcm:(ey x.id t==0)=false:=by
      rw[ey]
      split
      ·rfl
      ·rw[if_pos (by omega)];rfl
     have HXT:=aa hxt
     clear hxt
     go_wp2_with fail
     refine bodyPost_ret (v:=H #[B A j,.bool false]) (by simp[results,Tryz.results132,go_sem]) rfl ⟨⟨j,false,rfl,fun h=>by (cases h),fun _ hin=>?_⟩,hb1⟩
     obtain⟨y,hy,hyt⟩:=List.mem_map.1 hin
     obtain⟨k,hk⟩:=List.getElem?_of_mem hy
     rcases Nat.lt_or_ge k j with h | h
     ·have:=HLO.out k y h hk
      omega
     ·by_cases hkj:k=j
      ·subst hkj
       rw[HX.out] at hk
       injection hk with hk
       subst hk
       exact HXT.out hyt
      ·have h1:=HRI.out j k x.id y.id (by omega) (by rw[List.getElem?_map,HX.out];rfl) (by rw[List.getElem?_map,hk];rfl)
       have h2:=HHI.out j x (C _) HX.out
       omega
   ·have hml:¬(j:Int)<l:=by omega
    go_wp2_with fail
    refine bodyPost_ret (v:=H #[B A j,.bool false]) (by simp[results,Tryz.results132,go_sem]) rfl ⟨⟨j,false,rfl,fun h=>by (cases h),fun _ hin=>?_⟩,hbw⟩
    obtain⟨y,hy,hyt⟩:=List.mem_map.1 hin
    obtain⟨k,hk⟩:=List.getElem?_of_mem hy
    have hkl:k<L.length:=(List.getElem?_eq_some_iff.1 hk).1
    have:=HLO.out k y (by have:=HL.out;omega) hk
    omega
theorem pC (L:List Ed) (a:Option Addr) (l c:Nat) (t:Int) (w:World) (h:bO w L a l) (h60:l≤60) (hr:ez (L.map Ed.id)) :
 Calls Tryz.prog 110 #[E a l c,B A t,(.func (.func 111) #[] #[])] w fun e w'=>dy (L.map Ed.id) t e∧Below w.heap.size w w':=by
 have HC:Hid (∀(q:Nat) (W:World),Below w.heap.size w W→W.cell? ⟨q,0,none⟩=some (.func (.func 111) #[] #[])→q<W.heap.size→Calls Tryz.prog 132 #[E a l c,B A t,.func (.func 133) #[] #[I (some ⟨q,0,none⟩)]] W fun e w'=>dy (L.map Ed.id) t e∧Below W.heap.size W w'):=fun q W k hq hq2=>oh L a l c t q W hq hq2 (h.below k) h60 hr
 clear h hr
 go_enter Tryz.func110,Tryz.ntmps110
 go_wp2_with fail
 refine(HC.out _ _ ((G _ _).alloc (C _) _) (by simp) (by simp)).mono ?_
 rintro e w1 ⟨⟨i,f,rfl,h1,h2⟩,k1⟩
 have H1:=aa h1
 have H2:=aa h2
 have hb1:Below w.heap.size w w1:=((G _ _).alloc (C _) _).trans (k1.mono (by simp))
 clear h1 h2 k1
 go_wp2_with fail
 exact bodyPost_ret (v:=H #[B A i,.bool f]) (by simp[results,Tryz.results110,go_sem]) rfl ⟨⟨i,f,rfl,H1.out,H2.out⟩,hb1⟩
theorem rz (L:List Ed) (a:Option Addr) (l c:Nat) (t:Int) (w:World) (h:bO w L a l) (h60:l≤60) (hr:ez (L.map Ed.id)) :
 Calls Tryz.prog 76 #[E a l c,B A t] w fun e w'=>dy (L.map Ed.id) t e∧Below w.heap.size w w':=by
 have HC:=aa (pC L a l c t w h h60 hr)
 clear h hr
 go_enter Tryz.func76,Tryz.ntmps76
 go_wp2_with fail
 refine HC.out.mono ?_
 rintro e w1 ⟨⟨i,f,rfl,h1,h2⟩,k1⟩
 have H1:=aa h1
 have H2:=aa h2
 clear h1 h2
 go_wp2_with fail
 exact bodyPost_ret (v:=H #[B A i,.bool f]) (by simp[results,Tryz.results76,go_sem]) rfl ⟨⟨i,f,rfl,H1.out,H2.out⟩,k1⟩
end Go.Proofs.YtijjpoohhgapoaaGreatDoor

import Derived.Test.YtijjpoohhgapoaaGreatDoorVQAA
namespace Go.Proofs.YtijjpoohhgapoaaGreatDoor
open Go.RowKit
set_option linter.unusedVariables false
set_option maxHeartbeats 4000000
set_option maxRecDepth 100000
open Value renaming string → A, int → C, slice → G, agg → I
open Ending renaming returned → B
open RowKit.Below renaming refl → D
open IntKind renaming i64 → E
open List renaming drop_eq_nil_of_le → F
open Nat renaming zero_le → H
def kg (n:Int):Bool:=(decide (97≤n)&&decide (n≤122))||(decide (65≤n)&&decide (n≤90))||n==95
def kN (n:Int):Bool:=decide (48≤n)&&decide (n≤57)
def cM:Nat→List UInt8→Bool
 | _,[]=>true
 | i,c::r=>(kg c.toNat||(i != 0&&kN c.toNat))&&cM (i+1) r
def nm (s:ByteArray):Bool:=decide (0<s.size)&&decide (s.size≤12)&&cM 0 s.data.toList
theorem aP {a b:Bool} (h:a=b):Ending.returned (.bool a)=B (.bool b):=by rw[h]
theorem fu (n:Int) (w:World):Calls Tryz.prog 98 #[C .u8 n] w fun e w'=>e=B (.bool (kg n))∧w'=w:=by
 obtain⟨z,hz⟩:∃z,z=kg n:=⟨_,rfl⟩
 rw[←hz]
 have HZ:=aa hz
 clear hz
 go_enter Tryz.func98,Tryz.ntmps98
 go_wp2
 all_goals (go_ret;refine⟨aP ?_,rfl⟩;rw[HZ.out,kg,Bool.eq_iff_iff];simp at *;try omega)
theorem lY (n:Int) (w:World):Calls Tryz.prog 99 #[C .u8 n] w fun e w'=>e=B (.bool (kN n))∧w'=w:=by
 obtain⟨z,hz⟩:∃z,z=kN n:=⟨_,rfl⟩
 rw[←hz]
 have HZ:=aa hz
 clear hz
 go_enter Tryz.func99,Tryz.ntmps99
 go_wp2
 all_goals (go_ret;refine⟨aP ?_,rfl⟩;rw[HZ.out,kN,Bool.eq_iff_iff];simp at *;try omega)
theorem nh {s:ByteArray} (h:s≠⟨#[]⟩):0<s.size:=by
 rcases s with⟨⟨l⟩⟩
 cases l with
 | nil=>exact absurd rfl h
 | cons a l=>exact Nat.succ_pos _
theorem lX (s:ByteArray) (i:Nat) (h:i<s.size):s.data.toList.drop i=s[i]::s.data.toList.drop (i+1):=by
 have h2:i<s.data.toList.length:=by simpa using h
 rw[List.drop_eq_getElem_cons h2]
 rfl
theorem dv (s:ByteArray) (w:World) (hs:s.size≤9223372036854775807):Calls Tryz.prog 62 #[A s] w fun e w'=>e=B (.bool (nm s))∧Below w.heap.size w w':=by
 obtain⟨R,hR⟩:∃R,R=nm s:=⟨_,rfl⟩
 rw[←hR]
 have HR:=aa hR
 clear hR
 by_cases h0:s=⟨#[]⟩
 ·subst h0
  have H3:=aa (show R=false by rw[HR.out];rfl)
  clear HR
  go_enter Tryz.func62,Tryz.ntmps62
  go_wp2
  go_ret
  exact⟨aP (by rw[H3.out]),D _ _⟩
 ·have he:=bp h0
  have hp:0<s.size:=nh h0
  clear h0
  by_cases h12:12<s.size
  ·have h12':(12:Int)<s.size:=by omega
   have H3:=aa (show R=false by rw[HR.out,nm,decide_eq_false (p:=s.size≤12) (by omega)];simp)
   clear HR h12
   go_enter Tryz.func62,Tryz.ntmps62
   go_wp2
   go_ret
   exact⟨aP (by rw[H3.out]),D _ _⟩
  ·have h12':¬(12:Int)<s.size:=by omega
   have H3:=aa (show R=cM 0 (s.data.toList.drop 0) by rw[HR.out,nm,decide_eq_true (p:=s.size≤12) (by omega),decide_eq_true hp];simp)
   clear HR
   have Hh:=aa h12
   clear h12
   go_enter Tryz.func62,Tryz.ntmps62
   go_wp2_with fail
   go_loopg [13] s.size (fun g s13 wr=>∃i:Nat,i≤s.size∧s.size-i≤g∧s13=C E i∧Below w.heap.size w wr∧R=cM i (s.data.toList.drop i))
   case atStart=>exact⟨0,H _,by omega,rfl,D _ _,H3.out⟩
   case round=>
    clear H3
    obtain⟨i,hi,hg,rfl,hbw,hfe⟩:=hrel
    have HF:=aa hfe
    clear hfe
    by_cases hlt:i<s.size
    ·have hd:=aa (lX s i hlt)
     cases hl:kg (s[i].toNat:Int) with
     | true=>
       go_wp2_with (go_at_call 98;refine(fu _ _).mono ?_;rintro e w' ⟨rfl,rfl⟩)
       go_roundg (s.size-(i+1))
       case measure=>omega
       case rel=>exact⟨i+1,by omega,by omega,by go_num,hbw,by rw[HF.out,hd.out,cM,hl];simp⟩
     | false=>
       by_cases hi0:i=0
       ·subst hi0
        have H3:=aa (show R=false by rw[HF.out,hd.out,cM,hl];simp)
        clear HF hd
        go_wp2_with (go_at_call 98;refine(fu _ _).mono ?_;rintro e w' ⟨rfl,rfl⟩)
        go_ret
        exact⟨aP (by rw[H3.out]),hbw⟩
       ·have hi0':((i:Int)==0)=false:=by simpa using hi0
        cases hdg:kN (s[i].toNat:Int) with
        | true=>
          have H3:=aa (show R=cM (i+1) (s.data.toList.drop (i+1)) by rw[HF.out,hd.out,cM,hl,hdg];simp[hi0])
          clear hi0 HF hd
          go_wp2_with (first | (go_at_call 98;refine(fu _ _).mono ?_;rintro e w' ⟨rfl,rfl⟩) | (go_at_call 99;refine(lY _ _).mono ?_;rintro e w' ⟨rfl,rfl⟩))
          go_roundg (s.size-(i+1))
          case measure=>omega
          case rel=>exact⟨i+1,by omega,by omega,by go_num,hbw,H3.out⟩
        | false=>
          have H3:=aa (show R=false by rw[HF.out,hd.out,cM,hl,hdg];simp)
          clear hi0 HF hd
          go_wp2_with (first | (go_at_call 98;refine(fu _ _).mono ?_;rintro e w' ⟨rfl,rfl⟩) | (go_at_call 99;refine(lY _ _).mono ?_;rintro e w' ⟨rfl,rfl⟩))
          go_ret
          exact⟨aP (by rw[H3.out]),hbw⟩
    ·have H3:=aa (show R=true by rw[HF.out,F (by simp;omega)];rfl)
     clear HF
     go_wp2_with fail
     go_ret
     exact⟨aP (by rw[H3.out]),hbw⟩
def leS (s t:ByteArray):Bool:=Op.bytesLess s.toList t.toList||s.toList==t.toList
def fx:ByteArray→List ByteArray→Int
 | _,[]=>0
 | ah,s::r=>if nm s=true∧leS s ah=false then fx s r else 6
def b6 (L:List ByteArray):Int:=if 4<L.length then 2 else fx ⟨#[]⟩ L
def cD (w:World) (L:List ByteArray) (a:Option Addr) (l:Nat):Prop:=
 l=L.length∧l≤9223372036854775807∧(0<l→∃b off,a=some ⟨b,off,none⟩∧b<w.heap.size∧∀i s,L[i]? = some s→s.size≤9223372036854775807∧w.cell? ⟨b,off+i,none⟩=some (A s))
theorem cD.below {w w':World} (k:Below w.heap.size w w') {L:List ByteArray} {a:Option Addr} {l:Nat} (h:cD w L a l):cD w' L a l:=by
 obtain⟨h1,h2,h3⟩:=h
 refine⟨h1,h2,fun h0=>?_⟩
 obtain⟨b,off,ha,hb,hc⟩:=h3 h0
 refine⟨b,off,ha,Nat.lt_of_lt_of_le hb k.size,fun i s hs=>?_⟩
 obtain⟨c1,c2⟩:=hc i s hs
 exact⟨c1,(k.cell (p:=⟨b,off+i,none⟩) hb).trans c2⟩
theorem aF {α:Type} {L:List α} {i:Nat} (h:i<L.length):∃x,L[i]? = some x∧L.drop i=x::L.drop (i+1):=
 ⟨L[i],List.getElem?_eq_getElem h,List.drop_eq_getElem_cons h⟩
theorem gA (s t:ByteArray):(leS s t=true∧(Op.bytesLess s.toList t.toList=true∨(Op.bytesLess s.toList t.toList=false∧(s.toList==t.toList)=true)))∨(leS s t=false∧Op.bytesLess s.toList t.toList=false∧(s.toList==t.toList)=false):=by
 unfold leS
 cases Op.bytesLess s.toList t.toList<;>cases (s.toList==t.toList)<;>simp
theorem i9 (hN:∀(s:ByteArray) (w:World),s.size≤9223372036854775807→Calls Tryz.prog 62 #[A s] w fun e w'=>e=B (.bool (nm s))∧Below w.heap.size w w') (L:List ByteArray) (a:Option Addr) (l c:Nat) (w:World) (h:cD w L a l) :
 Calls Tryz.prog 71 #[G a l c] w fun e w'=>e=B (C E (b6 L))∧Below w.heap.size w w':=by
 obtain⟨hl,hmx,hat⟩:=h
 obtain⟨R,hR⟩:∃R,R=b6 L:=⟨_,rfl⟩
 rw[←hR]
 have HR:=aa hR
 have HN:=aa hN
 have HAT:=aa hat
 have HL:=aa hl
 clear hR hN hat hl
 by_cases h4:4<l
 ·have h4':(4:Int)<l:=by omega
  have H3:=aa (show R=2 by rw[HR.out,b6,if_pos (by have:=HL.out;omega)])
  clear HR h4
  go_enter Tryz.func71,Tryz.ntmps71
  go_wp2_with fail
  go_ret
  exact⟨ag (by rw[H3.out]),D _ _⟩
 ·have h4':¬(4:Int)<l:=by omega
  have H3:=aa (show R=fx ⟨#[]⟩ (L.drop 0) by rw[HR.out,b6,if_neg (by have:=HL.out;omega)];rfl)
  clear HR h4
  go_enter Tryz.func71,Tryz.ntmps71
  go_wp2_with fail
  go_loopg [3,11] l (fun g s3 s11 wr=>∃(i:Nat) (ah:ByteArray),i≤l∧l-i≤g∧s3=A ah∧s11=C E i∧Below w.heap.size w wr∧R=fx ah (L.drop i))
  case atStart=>exact⟨0,⟨#[]⟩,H _,by omega,rfl,rfl,D _ _,H3.out⟩
  case round=>
   clear H3
   obtain⟨i,ah,hi,hg,rfl,rfl,hbw,hfe⟩:=hrel
   have HF:=aa hfe
   clear hfe
   by_cases hlt:i<l
   ·obtain⟨b,off,ha,hb,hc⟩:=HAT.out (by omega)
    subst ha
    obtain⟨s,hs,hd⟩:=aF (L:=L) (i:=i) (by have:=HL.out;omega)
    obtain⟨hsz,hcell⟩:=hc i s hs
    have d0:=(hbw.cell (p:=⟨b,off+i,none⟩) hb).trans hcell
    have HD:=aa hd
    clear hc hd hcell hs
    go_wp2_with fail
    refine(HN.out s _ hsz).mono ?_
    rintro e w1 ⟨rfl,k1⟩
    have hb1:=hbw.trans (k1.mono hbw.size)
    clear k1 d0
    cases hn:nm s with
    | false=>
      have H3:=aa (show R=6 by rw[HF.out,HD.out,fx,if_neg (by simp[hn])])
      clear HF HD
      go_wp2_with fail
      go_ret
      exact⟨ag (by rw[H3.out]),hb1⟩
    | true=>
      rcases gA s ah with⟨hle,h1 | ⟨h1,h2⟩⟩ | ⟨hle,h1,h2⟩
      ·have H3:=aa (show R=6 by rw[HF.out,HD.out,fx,if_neg (by simp[hle])])
       clear HF HD hle
       go_wp2_with fail
       go_ret
       exact⟨ag (by rw[H3.out]),hb1⟩
      ·have H3:=aa (show R=6 by rw[HF.out,HD.out,fx,if_neg (by simp[hle])])
       clear HF HD hle
       go_wp2_with fail
       go_ret
       exact⟨ag (by rw[H3.out]),hb1⟩
      ·have H3:=aa (show R=fx s (L.drop (i+1)) by rw[HF.out,HD.out,fx,if_pos ⟨hn,hle⟩])
       clear HF HD hle
       go_wp2_with fail
       go_roundg (l-(i+1))
       case measure=>omega
       case rel=>exact⟨i+1,s,by omega,by omega,rfl,by go_num,hb1,H3.out⟩
   ·have H3:=aa (show R=0 by rw[HF.out,F (by have:=HL.out;omega)];rfl)
    clear HF
    go_wp2_with fail
    go_ret
    exact⟨ag (by rw[H3.out]),hbw⟩
theorem kR (hN:∀(s:ByteArray) (w:World),s.size≤9223372036854775807→Calls Tryz.prog 21 #[A s] w fun e w'=>e=B (.bool (nm s))∧Below w.heap.size w w') (L:List ByteArray) (a:Option Addr) (l c:Nat) (w:World) (h:cD w L a l) :
 Calls Tryz.prog 19 #[G a l c] w fun e w'=>e=B (C E (b6 L))∧Below w.heap.size w w':=by
 obtain⟨hl,hmx,hat⟩:=h
 obtain⟨R,hR⟩:∃R,R=b6 L:=⟨_,rfl⟩
 rw[←hR]
 have HR:=aa hR
 have HN:=aa hN
 have HAT:=aa hat
 have HL:=aa hl
 clear hR hN hat hl
 by_cases h4:4<l
 ·have h4':(4:Int)<l:=by omega
  have H3:=aa (show R=2 by rw[HR.out,b6,if_pos (by have:=HL.out;omega)])
  clear HR h4
  go_enter Tryz.func19,Tryz.ntmps19
  go_wp2_with fail
  go_ret
  exact⟨ag (by rw[H3.out]),D _ _⟩
 ·have h4':¬(4:Int)<l:=by omega
  have H3:=aa (show R=fx ⟨#[]⟩ (L.drop 0) by rw[HR.out,b6,if_neg (by have:=HL.out;omega)];rfl)
  clear HR h4
  go_enter Tryz.func19,Tryz.ntmps19
  go_wp2_with fail
  go_loopg [3,11] l (fun g s3 s11 wr=>∃(i:Nat) (ah:ByteArray),i≤l∧l-i≤g∧s3=A ah∧s11=C E i∧Below w.heap.size w wr∧R=fx ah (L.drop i))
  case atStart=>exact⟨0,⟨#[]⟩,H _,by omega,rfl,rfl,D _ _,H3.out⟩
  case round=>
   clear H3
   obtain⟨i,ah,hi,hg,rfl,rfl,hbw,hfe⟩:=hrel
   have HF:=aa hfe
   clear hfe
   by_cases hlt:i<l
   ·obtain⟨b,off,ha,hb,hc⟩:=HAT.out (by omega)
    subst ha
    obtain⟨s,hs,hd⟩:=aF (L:=L) (i:=i) (by have:=HL.out;omega)
    obtain⟨hsz,hcell⟩:=hc i s hs
    have d0:=(hbw.cell (p:=⟨b,off+i,none⟩) hb).trans hcell
    have HD:=aa hd
    clear hc hd hcell hs
    go_wp2_with fail
    refine(HN.out s _ hsz).mono ?_
    rintro e w1 ⟨rfl,k1⟩
    have hb1:=hbw.trans (k1.mono hbw.size)
    clear k1 d0
    cases hn:nm s with
    | false=>
      have H3:=aa (show R=6 by rw[HF.out,HD.out,fx,if_neg (by simp[hn])])
      clear HF HD
      go_wp2_with fail
      go_ret
      exact⟨ag (by rw[H3.out]),hb1⟩
    | true=>
      rcases gA s ah with⟨hle,h1 | ⟨h1,h2⟩⟩ | ⟨hle,h1,h2⟩
      ·have H3:=aa (show R=6 by rw[HF.out,HD.out,fx,if_neg (by simp[hle])])
       clear HF HD hle
       go_wp2_with fail
       go_ret
       exact⟨ag (by rw[H3.out]),hb1⟩
      ·have H3:=aa (show R=6 by rw[HF.out,HD.out,fx,if_neg (by simp[hle])])
       clear HF HD hle
       go_wp2_with fail
       go_ret
       exact⟨ag (by rw[H3.out]),hb1⟩
      ·have H3:=aa (show R=fx s (L.drop (i+1)) by rw[HF.out,HD.out,fx,if_pos ⟨hn,hle⟩])
       clear HF HD hle
       go_wp2_with fail
       go_roundg (l-(i+1))
       case measure=>omega
       case rel=>exact⟨i+1,s,by omega,by omega,rfl,by go_num,hb1,H3.out⟩
   ·have H3:=aa (show R=0 by rw[HF.out,F (by have:=HL.out;omega)];rfl)
    clear HF
    go_wp2_with fail
    go_ret
    exact⟨ag (by rw[H3.out]),hbw⟩
structure Pr where
 name:ByteArray
 k:Int
 n:Int
 s:ByteArray
 a:Option Addr
 l:Nat
 c:Nat
 e:Int
def Pr.val (p:Pr):Value:=I #[C E p.k,C E p.n,A p.s,G p.a p.l p.c]
def prE:ByteArray→List Pr→Int
 | _,[]=>0
 | ah,p::r=>if nm p.name=true∧leS p.name ah=false∧p.k≠0 then (if p.e=0 then prE p.name r else p.e) else 6
def bJ (L:List Pr):Int:=if 6<L.length then 2 else prE ⟨#[]⟩ L
def aX (w:World) (L:List Pr) (a:Option Addr) (l:Nat):Prop:=
 l=L.length∧l≤9223372036854775807∧(0<l→∃b off,a=some ⟨b,off,none⟩∧b<w.heap.size∧∀i p,L[i]? = some p→p.name.size≤9223372036854775807∧w.cell? ⟨b,off+i*5,none⟩=some (A p.name)∧w.cell? ⟨b,off+i*5+1,none⟩=some (C E p.k)∧w.cell? ⟨b,off+i*5+1+1,none⟩=some (C E p.n)∧w.cell? ⟨b,off+i*5+1+1+1,none⟩=some (A p.s)∧w.cell? ⟨b,off+i*5+1+1+1+1,none⟩=some (G p.a p.l p.c))
theorem aX.below {w w':World} (k:Below w.heap.size w w') {L:List Pr} {a:Option Addr} {l:Nat} (h:aX w L a l):aX w' L a l:=by
 obtain⟨h1,h2,h3⟩:=h
 refine⟨h1,h2,fun h0=>?_⟩
 obtain⟨b,off,ha,hb,hc⟩:=h3 h0
 refine⟨b,off,ha,Nat.lt_of_lt_of_le hb k.size,fun i s hs=>?_⟩
 have q:∀o,w'.cell? ⟨b,o,none⟩=w.cell? ⟨b,o,none⟩:=fun o=>k.cell (p:=⟨b,o,none⟩) hb
 obtain⟨c1,d0,d1,d2,d3,d4⟩:=hc i s hs
 exact⟨c1,(q _).trans d0,(q _).trans d1,(q _).trans d2,(q _).trans d3,(q _).trans d4⟩
theorem j1 (hN:∀(s:ByteArray) (w:World),s.size≤9223372036854775807→Calls Tryz.prog 62 #[A s] w fun e w'=>e=B (.bool (nm s))∧Below w.heap.size w w') (L:List Pr) (a:Option Addr) (l c:Nat) (w:World) (h:aX w L a l)
 (hV:∀p ∈ L,∀w',Below w.heap.size w w'→Calls Tryz.prog 83 #[p.val] w' fun e w''=>e=B (C E p.e)∧Below w'.heap.size w' w'') :
 Calls Tryz.prog 72 #[G a l c] w fun e w'=>e=B (C E (bJ L))∧Below w.heap.size w w':=by
 obtain⟨hl,hmx,hat⟩:=h
 obtain⟨R,hR⟩:∃R,R=bJ L:=⟨_,rfl⟩
 rw[←hR]
 have HR:=aa hR
 have HN:=aa hN
 have HV:=aa hV
 have HAT:=aa hat
 have HL:=aa hl
 clear hR hN hat hl hV
 by_cases h4:6<l
 ·have h4':(6:Int)<l:=by omega
  have H3:=aa (show R=2 by rw[HR.out,bJ,if_pos (by have:=HL.out;omega)])
  clear HR h4
  go_enter Tryz.func72,Tryz.ntmps72
  go_wp2_with fail
  go_ret
  exact⟨ag (by rw[H3.out]),D _ _⟩
 ·have h4':¬(6:Int)<l:=by omega
  have H3:=aa (show R=prE ⟨#[]⟩ (L.drop 0) by rw[HR.out,bJ,if_neg (by have:=HL.out;omega)];rfl)
  clear HR h4
  go_enter Tryz.func72,Tryz.ntmps72
  go_wp2_with fail
  go_loopg [3,12] l (fun g s3 s12 wr=>∃(i:Nat) (ah:ByteArray),i≤l∧l-i≤g∧s3=A ah∧s12=C E i∧Below w.heap.size w wr∧R=prE ah (L.drop i))
  case atStart=>exact⟨0,⟨#[]⟩,H _,by omega,rfl,rfl,D _ _,H3.out⟩
  case round=>
   clear H3
   obtain⟨i,ah,hi,hg,rfl,rfl,hbw,hfe⟩:=hrel
   have HF:=aa hfe
   clear hfe
   by_cases hlt:i<l
   ·obtain⟨b,off,ha,hb,hc⟩:=HAT.out (by omega)
    subst ha
    obtain⟨p,hp,hd⟩:=aF (L:=L) (i:=i) (by have:=HL.out;omega)
    obtain⟨hsz,c0,c1,c2,c3,c4⟩:=hc i p hp
    have q:∀o,wr.cell? ⟨b,o,none⟩=w.cell? ⟨b,o,none⟩:=fun o=>hbw.cell (p:=⟨b,o,none⟩) hb
    have d0:=(q _).trans c0
    have d1:=(q _).trans c1
    have d2:=(q _).trans c2
    have d3:=(q _).trans c3
    have d4:=(q _).trans c4
    have HD:=aa hd
    have HP:=aa (List.mem_of_getElem? hp)
    clear hc hd hp c0 c1 c2 c3 c4 q
    go_wp2_with fail
    refine(HN.out p.name _ hsz).mono ?_
    rintro e w1 ⟨rfl,k1⟩
    have s1:wr.heap.size+1≤w1.heap.size:=by have:=k1.size;simpa using this
    have y0:w1.cell? ⟨wr.heap.size,0,none⟩=some (A p.name):=by rw[k1.cell (by simp)];simp
    have y1:w1.cell? ⟨wr.heap.size,1,none⟩=some (C E p.k):=by rw[k1.cell (by simp)];simp
    have y2:w1.cell? ⟨wr.heap.size,1+1,none⟩=some (C E p.n):=by rw[k1.cell (by simp)];simp
    have y3:w1.cell? ⟨wr.heap.size,1+1+1,none⟩=some (A p.s):=by rw[k1.cell (by simp)];simp
    have y4:w1.cell? ⟨wr.heap.size,1+1+1+1,none⟩=some (G p.a p.l p.c):=by rw[k1.cell (by simp)];simp
    have hb1:Below w.heap.size w w1:=(hbw.alloc hbw.size _).trans (k1.mono (by have:=hbw.size;simp;omega))
    clear k1 d0 d1 d2 d3 d4
    cases hn:nm p.name with
    | false=>
      have H3:=aa (show R=6 by rw[HF.out,HD.out,prE,if_neg (by simp[hn])])
      clear HF HD
      go_wp2_with fail
      go_ret
      exact⟨ag (by rw[H3.out]),hb1⟩
    | true=>
      rcases gA p.name ah with⟨hle,h1 | ⟨h1,h2⟩⟩ | ⟨hle,h1,h2⟩
      ·have H3:=aa (show R=6 by rw[HF.out,HD.out,prE,if_neg (by simp[hle])])
       clear HF HD hle
       go_wp2_with fail
       go_ret
       exact⟨ag (by rw[H3.out]),hb1⟩
      ·have H3:=aa (show R=6 by rw[HF.out,HD.out,prE,if_neg (by simp[hle])])
       clear HF HD hle
       go_wp2_with fail
       go_ret
       exact⟨ag (by rw[H3.out]),hb1⟩
      ·by_cases hk:p.k=0
       ·have H3:=aa (show R=6 by rw[HF.out,HD.out,prE,if_neg (by simp[hk])])
        have hk':(p.k==0)=true:=by simpa using hk
        clear HF HD hle hk
        go_wp2_with fail
        go_ret
        exact⟨ag (by rw[H3.out]),hb1⟩
       ·have hk':(p.k==0)=false:=by simpa using hk
        have HC:=aa (HV.out p HP.out w1 hb1)
        have HF2:Hid (R=if p.e=0 then prE p.name (L.drop (i+1)) else p.e):=by show R=_;rw[HF.out,HD.out,prE,if_pos ⟨hn,hle,hk⟩]
        clear HF HD hle hk
        go_wp2_with fail
        refine HC.out.mono ?_
        rintro e w2 ⟨rfl,k2⟩
        have hb2:=hb1.trans (k2.mono hb1.size)
        have z0:w2.cell? ⟨wr.heap.size,0,none⟩=some (A p.name):=(k2.cell (p:=⟨wr.heap.size,0,none⟩) (by show wr.heap.size<_;omega)).trans y0
        clear k2 y0 y1 y2 y3 y4 HC
        by_cases he:p.e=0
        ·have H3:=aa (show R=prE p.name (L.drop (i+1)) by rw[HF2.out,if_pos he])
         have he':(p.e != 0)=false:=by simp[he]
         clear he HF2
         go_wp2_with fail
         go_roundg (l-(i+1))
         case measure=>omega
         case rel=>exact⟨i+1,p.name,by omega,by omega,rfl,by go_num,hb2,H3.out⟩
        ·have H3:=aa (show R=p.e by rw[HF2.out,if_neg he])
         have he':(p.e != 0)=true:=by simp[he]
         clear he HF2
         go_wp2_with fail
         go_ret
         exact⟨ag (by rw[H3.out]),hb2⟩
   ·have H3:=aa (show R=0 by rw[HF.out,F (by have:=HL.out;omega)];rfl)
    clear HF
    go_wp2_with fail
    go_ret
    exact⟨ag (by rw[H3.out]),hbw⟩
theorem lk (hN:∀(s:ByteArray) (w:World),s.size≤9223372036854775807→Calls Tryz.prog 21 #[A s] w fun e w'=>e=B (.bool (nm s))∧Below w.heap.size w w') (L:List Pr) (a:Option Addr) (l c:Nat) (w:World) (h:aX w L a l)
 (hV:∀p ∈ L,∀w',Below w.heap.size w w'→Calls Tryz.prog 22 #[p.val,C E 1] w' fun e w''=>e=B (C E p.e)∧Below w'.heap.size w' w'') :
 Calls Tryz.prog 20 #[G a l c] w fun e w'=>e=B (C E (bJ L))∧Below w.heap.size w w':=by
 obtain⟨hl,hmx,hat⟩:=h
 obtain⟨R,hR⟩:∃R,R=bJ L:=⟨_,rfl⟩
 rw[←hR]
 have HR:=aa hR
 have HN:=aa hN
 have HV:=aa hV
 have HAT:=aa hat
 have HL:=aa hl
 clear hR hN hat hl hV
 by_cases h4:6<l
 ·have h4':(6:Int)<l:=by omega
  have H3:=aa (show R=2 by rw[HR.out,bJ,if_pos (by have:=HL.out;omega)])
  clear HR h4
  go_enter Tryz.func20,Tryz.ntmps20
  go_wp2_with fail
  go_ret
  exact⟨ag (by rw[H3.out]),D _ _⟩
 ·have h4':¬(6:Int)<l:=by omega
  have H3:=aa (show R=prE ⟨#[]⟩ (L.drop 0) by rw[HR.out,bJ,if_neg (by have:=HL.out;omega)];rfl)
  clear HR h4
  go_enter Tryz.func20,Tryz.ntmps20
  go_wp2_with fail
  go_loopg [3,12] l (fun g s3 s12 wr=>∃(i:Nat) (ah:ByteArray),i≤l∧l-i≤g∧s3=A ah∧s12=C E i∧Below w.heap.size w wr∧R=prE ah (L.drop i))
  case atStart=>exact⟨0,⟨#[]⟩,H _,by omega,rfl,rfl,D _ _,H3.out⟩
  case round=>
   clear H3
   obtain⟨i,ah,hi,hg,rfl,rfl,hbw,hfe⟩:=hrel
   have HF:=aa hfe
   clear hfe
   by_cases hlt:i<l
   ·obtain⟨b,off,ha,hb,hc⟩:=HAT.out (by omega)
    subst ha
    obtain⟨p,hp,hd⟩:=aF (L:=L) (i:=i) (by have:=HL.out;omega)
    obtain⟨hsz,c0,c1,c2,c3,c4⟩:=hc i p hp
    have q:∀o,wr.cell? ⟨b,o,none⟩=w.cell? ⟨b,o,none⟩:=fun o=>hbw.cell (p:=⟨b,o,none⟩) hb
    have d0:=(q _).trans c0
    have d1:=(q _).trans c1
    have d2:=(q _).trans c2
    have d3:=(q _).trans c3
    have d4:=(q _).trans c4
    have HD:=aa hd
    have HP:=aa (List.mem_of_getElem? hp)
    clear hc hd hp c0 c1 c2 c3 c4 q
    go_wp2_with fail
    refine(HN.out p.name _ hsz).mono ?_
    rintro e w1 ⟨rfl,k1⟩
    have s1:wr.heap.size+1≤w1.heap.size:=by have:=k1.size;simpa using this
    have y0:w1.cell? ⟨wr.heap.size,0,none⟩=some (A p.name):=by rw[k1.cell (by simp)];simp
    have y1:w1.cell? ⟨wr.heap.size,1,none⟩=some (C E p.k):=by rw[k1.cell (by simp)];simp
    have y2:w1.cell? ⟨wr.heap.size,1+1,none⟩=some (C E p.n):=by rw[k1.cell (by simp)];simp
    have y3:w1.cell? ⟨wr.heap.size,1+1+1,none⟩=some (A p.s):=by rw[k1.cell (by simp)];simp
    have y4:w1.cell? ⟨wr.heap.size,1+1+1+1,none⟩=some (G p.a p.l p.c):=by rw[k1.cell (by simp)];simp
    have hb1:Below w.heap.size w w1:=(hbw.alloc hbw.size _).trans (k1.mono (by have:=hbw.size;simp;omega))
    clear k1 d0 d1 d2 d3 d4
    cases hn:nm p.name with
    | false=>
      have H3:=aa (show R=6 by rw[HF.out,HD.out,prE,if_neg (by simp[hn])])
      clear HF HD
      go_wp2_with fail
      go_ret
      exact⟨ag (by rw[H3.out]),hb1⟩
    | true=>
      rcases gA p.name ah with⟨hle,h1 | ⟨h1,h2⟩⟩ | ⟨hle,h1,h2⟩
      ·have H3:=aa (show R=6 by rw[HF.out,HD.out,prE,if_neg (by simp[hle])])
       clear HF HD hle
       go_wp2_with fail
       go_ret
       exact⟨ag (by rw[H3.out]),hb1⟩
      ·have H3:=aa (show R=6 by rw[HF.out,HD.out,prE,if_neg (by simp[hle])])
       clear HF HD hle
       go_wp2_with fail
       go_ret
       exact⟨ag (by rw[H3.out]),hb1⟩
      ·by_cases hk:p.k=0
       ·have H3:=aa (show R=6 by rw[HF.out,HD.out,prE,if_neg (by simp[hk])])
        have hk':(p.k==0)=true:=by simpa using hk
        clear HF HD hle hk
        go_wp2_with fail
        go_ret
        exact⟨ag (by rw[H3.out]),hb1⟩
       ·have hk':(p.k==0)=false:=by simpa using hk
        have HC:=aa (HV.out p HP.out w1 hb1)
        have HF2:Hid (R=if p.e=0 then prE p.name (L.drop (i+1)) else p.e):=by show R=_;rw[HF.out,HD.out,prE,if_pos ⟨hn,hle,hk⟩]
        clear HF HD hle hk
        go_wp2_with fail
        refine HC.out.mono ?_
        rintro e w2 ⟨rfl,k2⟩
        have hb2:=hb1.trans (k2.mono hb1.size)
        have z0:w2.cell? ⟨wr.heap.size,0,none⟩=some (A p.name):=(k2.cell (p:=⟨wr.heap.size,0,none⟩) (by show wr.heap.size<_;omega)).trans y0
        clear k2 y0 y1 y2 y3 y4 HC
        by_cases he:p.e=0
        ·have H3:=aa (show R=prE p.name (L.drop (i+1)) by rw[HF2.out,if_pos he])
         have he':(p.e != 0)=false:=by simp[he]
         clear he HF2
         go_wp2_with fail
         go_roundg (l-(i+1))
         case measure=>omega
         case rel=>exact⟨i+1,p.name,by omega,by omega,rfl,by go_num,hb2,H3.out⟩
        ·have H3:=aa (show R=p.e by rw[HF2.out,if_neg he])
         have he':(p.e != 0)=true:=by simp[he]
         clear he HF2
         go_wp2_with fail
         go_ret
         exact⟨ag (by rw[H3.out]),hb2⟩
   ·have H3:=aa (show R=0 by rw[HF.out,F (by have:=HL.out;omega)];rfl)
    clear HF
    go_wp2_with fail
    go_ret
    exact⟨ag (by rw[H3.out]),hbw⟩
end Go.Proofs.YtijjpoohhgapoaaGreatDoor

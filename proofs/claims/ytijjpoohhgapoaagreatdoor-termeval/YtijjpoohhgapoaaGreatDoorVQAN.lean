import Derived.Test.YtijjpoohhgapoaaGreatDoorVQAM
namespace Go.Proofs.YtijjpoohhgapoaaGreatDoor
open Go.RowKit
set_option linter.unusedVariables false
set_option maxHeartbeats 8000000
set_option maxRecDepth 100000
open Value renaming slice → A, int → C, string → G, pointer → H, agg → M, tuple → Q
open IntKind renaming i64 → B
open Obj renaming cells → D
open Ending renaming returned → F
open List renaming drop_eq_nil_of_le → I, map_cons → O, map_drop → P
open RowKit.Below renaming refl → J
open Nat renaming le_refl → K, le_trans → S, zero_le → U
def uc (L:List Nd) (a:Option Addr) (id:Int) (e:Ending):Prop:=
 (id ∉ L.map Nd.id∧e=F (H none))∨∃(i:Nat) (x:Nd) (b off:Nat),a=some ⟨b,off,none⟩∧L[i]? = some x∧x.id=id∧e=F (H (some ⟨b,off+i*3,none⟩))
theorem fs (L:List Nd) (na:Option Addr) (nl nc:Nat) (ea:Option Addr) (el ec:Nat) (next id:Int) (w:World) (h:bF w L na nl) :
 Calls Tryz.prog 6 #[M #[A na nl nc,A ea el ec,C B next],C B id] w fun e w'=>uc L na id e∧Below w.heap.size w w':=by
 obtain⟨hl,hmx,hat⟩:=h
 have HL:=aa hl
 have HAT:=aa hat
 clear hl hat
 have b0:Below w.heap.size w (w.alloc (D #[A na nl nc,A ea el ec,C B next] 25)):=(J _ _).alloc (K _) _
 have hx:=ae w (D #[A na nl nc,A ea el ec,C B next] 25)
 have y0:(w.alloc (D #[A na nl nc,A ea el ec,C B next] 25)).cell? ⟨w.heap.size,0,none⟩=some (A na nl nc):=ac hx 0
 have y1:(w.alloc (D #[A na nl nc,A ea el ec,C B next] 25)).cell? ⟨w.heap.size,1,none⟩=some (A ea el ec):=ac hx 1
 have B0:=aa b0
 clear hx b0
 go_enter Tryz.func6,Tryz.ntmps6
 go_wp2_with fail
 go_loopg [9] nl (fun g s9 wr=>∃i:Nat,i≤nl∧nl-i≤g∧s9=C B i∧wr=w.alloc (D #[A na nl nc,A ea el ec,C B next] 25)∧(∀k x,k<i→L[k]? = some x→x.id≠id))
 case atStart=>exact⟨0,U _,by omega,rfl,rfl,fun k x hk=>absurd hk (Nat.not_lt_zero _)⟩
 case round=>
  obtain⟨i,hi,hg,rfl,rfl,hno⟩:=hrel
  have HNO:=aa hno
  clear hno
  by_cases hlt:i<nl
  ·obtain⟨b,off,ha,hb,hc⟩:=HAT.out (by omega)
   subst ha
   obtain⟨x,hx,_⟩:=aF (L:=L) (i:=i) (by have:=HL.out;omega)
   have c0:=(hc i x hx).1
   have d0:=(B0.out.cell (p:=⟨b,off+i*3,none⟩) hb).trans c0
   have HX:=aa hx
   clear hc hx c0
   by_cases hid:x.id=id
   ·have hid':(x.id==id)=true:=by simpa using hid
    have HID:=aa hid
    clear hid
    go_wp2_with fail
    go_ret
    exact⟨.inr ⟨i,x,b,off,rfl,HX.out,HID.out,rfl⟩,B0.out⟩
   ·have hid':(x.id==id)=false:=by simpa using hid
    have HID:=aa hid
    clear hid
    go_wp2_with fail
    go_roundg (nl-(i+1))
    case measure=>omega
    case rel=>
     refine⟨i+1,by omega,by omega,by go_num,rfl,fun k y hk hy=>?_⟩
     by_cases hki:k=i
     ·subst hki
      rw[HX.out] at hy
      injection hy with hy
      subst hy
      exact HID.out
     ·exact HNO.out k y (by omega) hy
  ·have HN:Hid (id ∉ L.map Nd.id):=by
    intro hin
    obtain⟨y,hy,hyi⟩:=List.mem_map.1 hin
    obtain⟨k,hk⟩:=List.getElem?_of_mem hy
    have hkl:=(List.getElem?_eq_some_iff.1 hk).1
    exact HNO.out k y (by have:=HL.out;omega) hk hyi
   clear HNO
   go_wp2_with fail
   go_ret
   exact⟨.inl ⟨HN.out,rfl⟩,B0.out⟩
def ue (L:List Ed) (a:Option Addr) (id:Int) (e:Ending):Prop:=
 (id ∉ L.map Ed.id∧e=F (H none))∨∃(i:Nat) (x:Ed) (b off:Nat),a=some ⟨b,off,none⟩∧L[i]? = some x∧x.id=id∧e=F (H (some ⟨b,off+i*5,none⟩))
theorem fA (L:List Ed) (na:Option Addr) (nl nc:Nat) (ea:Option Addr) (el ec:Nat) (next id:Int) (w:World) (h:bO w L ea el) :
 Calls Tryz.prog 7 #[M #[A na nl nc,A ea el ec,C B next],C B id] w fun e w'=>ue L ea id e∧Below w.heap.size w w':=by
 obtain⟨hl,hmx,hat⟩:=h
 have HL:=aa hl
 have HAT:=aa hat
 clear hl hat
 have b0:Below w.heap.size w (w.alloc (D #[A na nl nc,A ea el ec,C B next] 25)):=(J _ _).alloc (K _) _
 have hx:=ae w (D #[A na nl nc,A ea el ec,C B next] 25)
 have y0:(w.alloc (D #[A na nl nc,A ea el ec,C B next] 25)).cell? ⟨w.heap.size,0,none⟩=some (A na nl nc):=ac hx 0
 have y1:(w.alloc (D #[A na nl nc,A ea el ec,C B next] 25)).cell? ⟨w.heap.size,1,none⟩=some (A ea el ec):=ac hx 1
 have B0:=aa b0
 clear hx b0
 go_enter Tryz.func7,Tryz.ntmps7
 go_wp2_with fail
 go_loopg [9] el (fun g s9 wr=>∃i:Nat,i≤el∧el-i≤g∧s9=C B i∧wr=w.alloc (D #[A na nl nc,A ea el ec,C B next] 25)∧(∀k x,k<i→L[k]? = some x→x.id≠id))
 case atStart=>exact⟨0,U _,by omega,rfl,rfl,fun k x hk=>absurd hk (Nat.not_lt_zero _)⟩
 case round=>
  obtain⟨i,hi,hg,rfl,rfl,hno⟩:=hrel
  have HNO:=aa hno
  clear hno
  by_cases hlt:i<el
  ·obtain⟨b,off,ha,hb,hc⟩:=HAT.out (by omega)
   subst ha
   obtain⟨x,hx,_⟩:=aF (L:=L) (i:=i) (by have:=HL.out;omega)
   have c0:=(hc i x hx).2.1
   have d0:=(B0.out.cell (p:=⟨b,off+i*5,none⟩) hb).trans c0
   have HX:=aa hx
   clear hc hx c0
   by_cases hid:x.id=id
   ·have hid':(x.id==id)=true:=by simpa using hid
    have HID:=aa hid
    clear hid
    go_wp2_with fail
    go_ret
    exact⟨.inr ⟨i,x,b,off,rfl,HX.out,HID.out,rfl⟩,B0.out⟩
   ·have hid':(x.id==id)=false:=by simpa using hid
    have HID:=aa hid
    clear hid
    go_wp2_with fail
    go_roundg (el-(i+1))
    case measure=>omega
    case rel=>
     refine⟨i+1,by omega,by omega,by go_num,rfl,fun k y hk hy=>?_⟩
     by_cases hki:k=i
     ·subst hki
      rw[HX.out] at hy
      injection hy with hy
      subst hy
      exact HID.out
     ·exact HNO.out k y (by omega) hy
  ·have HN:Hid (id ∉ L.map Ed.id):=by
    intro hin
    obtain⟨y,hy,hyi⟩:=List.mem_map.1 hin
    obtain⟨k,hk⟩:=List.getElem?_of_mem hy
    have hkl:=(List.getElem?_eq_some_iff.1 hk).1
    exact HNO.out k y (by have:=HL.out;omega) hk hyi
   clear HNO
   go_wp2_with fail
   go_ret
   exact⟨.inl ⟨HN.out,rfl⟩,B0.out⟩
def pL (has:Bool) (e:Ending):Prop:=(has=false∧e=F (H none))∨(has=true∧∃q:Addr,e=F (H (some q)))
theorem j4 (N:List Nd) (na:Option Addr) (nl nc:Nat) (ea:Option Addr) (el ec:Nat) (next id:Int) (w:World) (h:bF w N na nl) :
 Calls Tryz.prog 6 #[M #[A na nl nc,A ea el ec,C B next],C B id] w fun e w'=>pL (dE N id) e∧Below w.heap.size w w':=by
 refine(fs N na nl nc ea el ec next id w h).mono ?_
 rintro e w' ⟨h1,k⟩
 refine⟨?_,k⟩
 rcases h1 with⟨h1,rfl⟩ | ⟨i,x,b,off,_,h2,h3,rfl⟩
 ·exact .inl ⟨decide_eq_false h1,rfl⟩
 ·exact .inr ⟨decide_eq_true (List.mem_map.2 ⟨x,List.mem_of_getElem? h2,h3⟩),_,rfl⟩
theorem rA {W w':World} {n:Nat} (k:Below (W.drewN n).heap.size (W.drewN n) w'):Below W.heap.size W w':=(bc W n).trans (k.mono (by simp))
theorem qZ (N:List Nd) (E:List Ed) (na:Option Addr) (nl nc:Nat) (ea:Option Addr) (el ec:Nat) (next:Int) (w:World) (hNA:bF w N na nl) (hEA:bO w E ea el)
 (hN:∀x ∈ N,∀w',Below w.heap.size w w'→(Calls Tryz.prog 19 #[A x.la x.ll x.lc] w' fun e w''=>e=F (C B (b6 x.labs))∧Below w'.heap.size w' w'')∧(Calls Tryz.prog 20 #[A x.pa x.pl x.pc] w' fun e w''=>e=F (C B (bJ x.props))∧Below w'.heap.size w' w''))
 (hE:∀x ∈ E,∀w',Below w.heap.size w w'→Calls Tryz.prog 20 #[A x.pa x.pl x.pc] w' fun e w''=>e=F (C B (bJ x.props))∧Below w'.heap.size w' w'') :
 Calls Tryz.prog 5 #[M #[A na nl nc,A ea el ec,C B next]] w fun e w'=>e=F (C B (gE N E next))∧Below w.heap.size w w':=by
 obtain⟨R,hR⟩:∃R,R=gE N E next:=⟨_,rfl⟩
 rw[←hR]
 have HR:=aa hR
 have HNA:=aa hNA
 have HEA:=aa hEA
 have hn63:=hNA.2.1
 have he63:=hEA.2.1
 have HNL:=aa hNA.1
 have HEL:=aa hEA.1
 have HCN:=aa hN
 have HCE:=aa hE
 have HAN:Hid (∀id W,Below w.heap.size w W→Calls Tryz.prog 6 #[M #[A na nl nc,A ea el ec,C B next],C B id] W fun e w'=>pL (dE N id) e∧Below W.heap.size W w'):=fun id W k=>j4 N na nl nc ea el ec next id W (hNA.below k)
 clear hR hN hE hNA hEA
 by_cases hbig:40<nl∨60<el
 ·have H3:=aa (show R=2 by rw[HR.out,gE,if_pos (by have:=HNL.out;have:=HEL.out;omega)])
  clear HR
  by_cases h4:40<nl
  ·have h4':(40:Int)<nl:=by omega
   clear hbig h4
   go_enter Tryz.func5,Tryz.ntmps5
   go_wp2_with fail
   go_ret
   exact⟨ag (by rw[H3.out]),(J _ _).alloc (K _) _⟩
  ·have h4':¬(40:Int)<nl:=by omega
   have h6':(60:Int)<el:=by omega
   clear hbig h4
   go_enter Tryz.func5,Tryz.ntmps5
   go_wp2_with fail
   go_ret
   exact⟨ag (by rw[H3.out]),(J _ _).alloc (K _) _⟩
 ·have h4':¬(40:Int)<nl:=by omega
  have h6':¬(60:Int)<el:=by omega
  have h40:nl≤40:=by omega
  have h60:el≤60:=by omega
  have HR1:=aa (show R=if ndE 0 N=0 then (if edE N 0 E=0 then (if next≤bU 0 (N.map Nd.id)∨next≤bU 0 (E.map Ed.id)∨1099511627776<next then 9 else 0) else edE N 0 E) else ndE 0 N by rw[HR.out,gE,if_neg (by have:=HNL.out;have:=HEL.out;omega)])
  clear HR hbig
  have b0:Below w.heap.size w (w.alloc (D #[A na nl nc,A ea el ec,C B next] 25)):=(J _ _).alloc (K _) _
  have z0:(w.alloc (D #[A na nl nc,A ea el ec,C B next] 25)).heap.size=w.heap.size+1:=by simp
  have hx:=ae w (D #[A na nl nc,A ea el ec,C B next] 25)
  have HY:Hid (∀W,Below (w.heap.size+1) (w.alloc (D #[A na nl nc,A ea el ec,C B next] 25)) W→W.cell? ⟨w.heap.size,0,none⟩=some (A na nl nc)∧W.cell? ⟨w.heap.size,1,none⟩=some (A ea el ec)∧W.cell? ⟨w.heap.size,2,none⟩=some (C B next)):=by
   intro W k
   have q:∀o,W.cell? ⟨w.heap.size,o,none⟩=_:=fun o=>(k.cell (p:=⟨w.heap.size,o,none⟩) (Nat.lt_succ_self _)).trans (ac hx o)
   exact⟨q 0,q 1,q 2⟩
  have B0:=aa b0
  have Z0:=aa z0
  clear hx b0 z0
  go_enter Tryz.func5,Tryz.ntmps5
  go_wp2_with fail
  go_loopg [3,4,25] nl (fun g s3 s4 s25 wr=>∃(i:Nat) (ah:Int),i≤nl∧nl-i≤g∧s3=C B ah∧s4=C B ah∧s25=C B i∧0≤ah∧Below (w.heap.size+1) (w.alloc (D #[A na nl nc,A ea el ec,C B next] 25)) wr∧ndE 0 N=ndE ah (N.drop i)∧bU 0 (N.map Nd.id)=bU ah ((N.map Nd.id).drop i))
  case atStart=>exact⟨0,0,U _,by omega,rfl,rfl,rfl,Int.le_refl _,J _ _,rfl,rfl⟩
  case round=>
   obtain⟨i,ah,hi,hg,rfl,rfl,rfl,hah,hbw,hfe,hla⟩:=hrel
   have HF:=aa hfe
   have HLA:=aa hla
   have HAH:=aa hah
   clear hfe hla hah
   have hz:w.heap.size+1≤wr.heap.size:=by have:=hbw.size;rw[Z0.out] at this;exact this
   have hw0:Below w.heap.size w wr:=B0.out.trans (hbw.mono (by omega))
   by_cases hlt:i<nl
   ·obtain⟨b,off,ha,hb,hc⟩:=HNA.out.2.2 (by omega)
    subst ha
    obtain⟨x,hx,hd⟩:=aF (L:=N) (i:=i) (by have:=HNL.out;omega)
    obtain⟨c0,c1,c2⟩:=hc i x hx
    have q:∀o,wr.cell? ⟨b,o,none⟩=w.cell? ⟨b,o,none⟩:=fun o=>hw0.cell (p:=⟨b,o,none⟩) hb
    have d0:=(q _).trans c0
    have d1:=(q _).trans c1
    have d2:=(q _).trans c2
    have HD:=aa hd
    have HX:=aa (List.mem_of_getElem? hx)
    have HM:=aa (show(N.map Nd.id).drop i=x.id::(N.map Nd.id).drop (i+1) by rw[←P,hd,O,P])
    have hq0:Below (w.heap.size+1) (w.alloc (D #[A (some ⟨b,off,none⟩) nl nc,A ea el ec,C B next] 25)) (wr.alloc (D #[C B x.id,A x.la x.ll x.lc,A x.pa x.pl x.pc] 61)):=hbw.alloc hz _
    have hq1:Below w.heap.size w (wr.alloc (D #[C B x.id,A x.la x.ll x.lc,A x.pa x.pl x.pc] 61)):=hw0.alloc (by omega) _
    have HQ0:=aa hq0
    have HQ1:=aa hq1
    clear hc hd hx c0 c1 c2 q hq0 hq1
    by_cases hle:x.id≤ah
    ·have H3:=aa (show R=6 by
      have h5:ndE 0 N=6:=by rw[HF.out,HD.out,ndE,if_neg (by rw[dc,if_pos hle];decide),dc,if_pos hle]
      rw[HR1.out,h5,if_neg (by decide)])
     clear HR1 HF HD HLA
     go_wp2_with fail
     go_ret
     exact⟨ag (by rw[H3.out]),HQ1.out⟩
    ·have HLE:=aa hle
     go_wp2_with fail
     have y0:(wr.alloc (D #[C B x.id,A x.la x.ll x.lc,A x.pa x.pl x.pc] 61)).cell? ⟨wr.heap.size,0,none⟩=some (C B x.id):=ac (ae wr _) 0
     have y1:(wr.alloc (D #[C B x.id,A x.la x.ll x.lc,A x.pa x.pl x.pc] 61)).cell? ⟨wr.heap.size,1,none⟩=some (A x.la x.ll x.lc):=ac (ae wr _) 1
     have y2:(wr.alloc (D #[C B x.id,A x.la x.ll x.lc,A x.pa x.pl x.pc] 61)).cell? ⟨wr.heap.size,2,none⟩=some (A x.pa x.pl x.pc):=ac (ae wr _) 2
     have hzq:wr.heap.size<(wr.alloc (D #[C B x.id,A x.la x.ll x.lc,A x.pa x.pl x.pc] 61)).heap.size:=by simp
     clear d0 d1 d2
     generalize wr.alloc (D #[C B x.id,A x.la x.ll x.lc,A x.pa x.pl x.pc] 61)=W1 at HQ0 HQ1 y0 y1 y2 hzq ⊢
     have HDR:=aa (fun nq=>HQ1.out.trans ((bc W1 nq).mono HQ1.out.size))
     go_quiet (fail)
     go_wp2_with fail
     refine((HCN.out x HX.out _ (HDR.out _)).1).mono ?_
     rintro e w2 ⟨rfl,k2⟩
     have k2':Below W1.heap.size W1 w2:=rA k2
     have HB2:=aa (aZ HQ1.out HQ1.out.size k2')
     have HK2:=aa (aZ HQ0.out (S hz (by omega)) k2')
     have z1:=(k2'.cell (p:=⟨wr.heap.size,1,none⟩) hzq).trans y1
     have z2:=(k2'.cell (p:=⟨wr.heap.size,2,none⟩) hzq).trans y2
     clear k2 k2' y0 y1 y2 HQ0 HQ1 HDR
     by_cases he:b6 x.labs=0
     ·have he':(b6 x.labs != 0)=false:=by simp[he]
      have HE1:=aa he
      clear he
      go_wp2_with fail
      refine((HCN.out x HX.out _ HB2.out).2).mono ?_
      rintro e w3 ⟨rfl,k3⟩
      have HB3:=aa (aZ HB2.out HB2.out.size k3)
      have HK3:=aa (aZ HK2.out (Nat.le_of_lt_succ (Nat.lt_succ_of_le (by have:=HK2.out.size;rw[Z0.out] at this;exact this))) k3)
      clear k3 z1 z2
      by_cases he2:bJ x.props=0
      ·have he2':(bJ x.props != 0)=false:=by simp[he2]
       have HE2:=aa he2
       clear he2
       go_wp2_with fail
       go_roundg (nl-(i+1))
       case measure=>omega
       case rel=>
        have h5:dc ah x=0:=by rw[dc,if_neg (by have:=HLE.out;omega),if_pos HE1.out];exact HE2.out
        refine⟨i+1,x.id,by omega,by omega,rfl,rfl,by go_num,?_,HK3.out,by rw[HF.out,HD.out,ndE,if_pos h5],by rw[HLA.out,HM.out,bU]⟩
        have:=HLE.out
        have:=HAH.out
        omega
      ·have he2':(bJ x.props != 0)=true:=by simp[he2]
       have H3:=aa (show R=bJ x.props by
        have h4:dc ah x=bJ x.props:=by rw[dc,if_neg (by have:=HLE.out;omega),if_pos HE1.out]
        have h5:ndE 0 N=bJ x.props:=by rw[HF.out,HD.out,ndE,if_neg (by rw[h4];exact he2),h4]
        rw[HR1.out,h5,if_neg he2])
       clear he2 HR1
       go_wp2_with fail
       go_ret
       exact⟨ag (by rw[H3.out]),HB3.out⟩
     ·have he':(b6 x.labs != 0)=true:=by simp[he]
      have H3:=aa (show R=b6 x.labs by
       have h4:dc ah x=b6 x.labs:=by rw[dc,if_neg (by have:=HLE.out;omega),if_neg he]
       have h5:ndE 0 N=b6 x.labs:=by rw[HF.out,HD.out,ndE,if_neg (by rw[h4];exact he),h4]
       rw[HR1.out,h5,if_neg he])
      clear he HR1
      go_wp2_with fail
      go_ret
      exact⟨ag (by rw[H3.out]),HB2.out⟩
   ·have hN0:ndE 0 N=0:=by rw[HF.out,I (by have:=HNL.out;omega)];rfl
    have HLN:=aa (show bU 0 (N.map Nd.id)=ah by rw[HLA.out,I (by have:=HNL.out;simp;omega)];rfl)
    have HR2:=aa (show R=if edE N 0 E=0 then (if next≤ah∨next≤bU 0 (E.map Ed.id)∨1099511627776<next then 9 else 0) else edE N 0 E by rw[HR1.out,if_pos hN0,HLN.out])
    clear HR1 hN0 HF HLA HLN HCN
    obtain⟨y0,y1,y2⟩:=HY.out wr hbw
    obtain⟨W1,rfl⟩:∃W1,W1=wr:=⟨_,rfl⟩
    have HBW:=aa hbw
    have HW0:=aa hw0
    have HZ:=aa hz
    clear hbw hw0 hz hi hg
    go_wp2_with fail
    go_loopg [3,4,53] el (fun g s3 s4 s53 wq=>∃(i:Nat) (bh T:Int),i≤el∧el-i≤g∧s3=C B T∧s4=C B bh∧s53=C B i∧(ah≤T∧bh≤T∧(T=ah∨T=bh))∧Below (w.heap.size+1) (w.alloc (D #[A na nl nc,A ea el ec,C B next] 25)) wq∧edE N 0 E=edE N bh (E.drop i)∧bU 0 (E.map Ed.id)=bU bh ((E.map Ed.id).drop i))
    case atStart=>exact⟨0,0,ah,U _,by omega,rfl,rfl,rfl,⟨Int.le_refl _,HAH.out,.inl rfl⟩,HBW.out,rfl,rfl⟩
    case round=>
     clear y0 y1 y2 HBW HW0 HZ
     obtain⟨i,bh,T,hi,hg,rfl,rfl,rfl,hT,hbw,hfe,hla⟩:=hrel
     have HF:=aa hfe
     have HLA:=aa hla
     have HTT:=aa hT
     clear hfe hla hT
     have hz:w.heap.size+1≤wr.heap.size:=by have:=hbw.size;rw[Z0.out] at this;exact this
     have hw0:Below w.heap.size w wr:=B0.out.trans (hbw.mono (by omega))
     by_cases hlt:i<el
     ·obtain⟨b,off,ha,hb,hc⟩:=HEA.out.2.2 (by omega)
      subst ha
      obtain⟨x,hx,hd⟩:=aF (L:=E) (i:=i) (by have:=HEL.out;omega)
      obtain⟨ht,c0,c1,c2,c3,c4⟩:=hc i x hx
      have q:∀o,wr.cell? ⟨b,o,none⟩=w.cell? ⟨b,o,none⟩:=fun o=>hw0.cell (p:=⟨b,o,none⟩) hb
      have d0:=(q _).trans c0
      have d1:=(q _).trans c1
      have d2:=(q _).trans c2
      have d3:=(q _).trans c3
      have d4:=(q _).trans c4
      have HD:=aa hd
      have HX:=aa (List.mem_of_getElem? hx)
      have HM:=aa (show(E.map Ed.id).drop i=x.id::(E.map Ed.id).drop (i+1) by rw[←P,hd,O,P])
      have HT:=aa ht
      have hq0:Below (w.heap.size+1) (w.alloc (D #[A na nl nc,A (some ⟨b,off,none⟩) el ec,C B next] 25)) (wr.alloc (D #[C B x.id,C B x.frm,C B x.dst,G x.typ,A x.pa x.pl x.pc] 65)):=hbw.alloc hz _
      have hq1:Below w.heap.size w (wr.alloc (D #[C B x.id,C B x.frm,C B x.dst,G x.typ,A x.pa x.pl x.pc] 65)):=hw0.alloc (by omega) _
      have HQ0:=aa hq0
      have HQ1:=aa hq1
      have hxx:=ae wr (D #[C B x.id,C B x.frm,C B x.dst,G x.typ,A x.pa x.pl x.pc] 65)
      have HP:Hid (∀W,Below (wr.heap.size+1) (wr.alloc (D #[C B x.id,C B x.frm,C B x.dst,G x.typ,A x.pa x.pl x.pc] 65)) W→W.cell? ⟨wr.heap.size,0,none⟩=some (C B x.id)∧W.cell? ⟨wr.heap.size,1,none⟩=some (C B x.frm)∧W.cell? ⟨wr.heap.size,2,none⟩=some (C B x.dst)∧W.cell? ⟨wr.heap.size,3,none⟩=some (G x.typ)∧W.cell? ⟨wr.heap.size,4,none⟩=some (A x.pa x.pl x.pc)):=by
       intro W k
       have q:∀o,W.cell? ⟨wr.heap.size,o,none⟩=_:=fun o=>(k.cell (p:=⟨wr.heap.size,o,none⟩) (Nat.lt_succ_self _)).trans (ac hxx o)
       exact⟨q 0,q 1,q 2,q 3,q 4⟩
      have hzz:(wr.alloc (D #[C B x.id,C B x.frm,C B x.dst,G x.typ,A x.pa x.pl x.pc] 65)).heap.size=wr.heap.size+1:=by simp
      have HZZ:=aa hzz
      obtain⟨y0,y1,y2⟩:=HY.out wr hbw
      have hzl:w.heap.size<wr.heap.size:=by omega
      clear hc hd hx c0 c1 c2 c3 c4 q ht hq0 hq1 hxx hzz
      by_cases hle:x.id≤bh
      ·have H3:=aa (show R=6 by
        have h4:cl N bh x=6:=by rw[cl,if_pos (.inl hle)]
        have h5:edE N 0 E=6:=by rw[HF.out,HD.out,edE,if_neg (by rw[h4];decide),h4]
        rw[HR2.out,h5,if_neg (by decide)])
       clear HR2
       go_wp2_with fail
       go_ret
       exact⟨ag (by rw[H3.out]),HQ1.out⟩
      ·have HLE:=aa hle
       go_wp2_with fail
       refine(HAN.out x.id _ HQ1.out).mono ?_
       have KK0:=aa (J (wr.heap.size+1) (wr.alloc (D #[C B x.id,C B x.frm,C B x.dst,G x.typ,A x.pa x.pl x.pc] 65)))
       generalize wr.alloc (D #[C B x.id,C B x.frm,C B x.dst,G x.typ,A x.pa x.pl x.pc] 65)=W2 at HQ0 HQ1 HP HZZ KK0 ⊢
       rintro e w2 ⟨hnil,k2⟩
       have KK2:=aa (aZ KK0.out (by rw[HZZ.out];exact K _) k2)
       have HB2:=aa (aZ HQ1.out HQ1.out.size k2)
       have HK2:=aa (aZ HQ0.out (by rw[HZZ.out];omega) k2)
       have S2:wr.heap.size+1≤w2.heap.size:=by have:=k2.size;rw[HZZ.out] at this;exact this
       clear d0 d1 d2 d3 d4 y0 y1 y2 k2 KK0
       obtain⟨p0,p1,p2,p3,p4⟩:=HP.out w2 KK2.out
       obtain⟨y0,y1,y2⟩:=HY.out w2 HK2.out
       rcases hnil with⟨hh1,rfl⟩ | ⟨hh1,ad,rfl⟩
       ·have HH1:=aa hh1
        clear hh1
        go_wp2_with fail
        refine(dT x.typ _ HT.out).mono ?_
        rintro e w3 ⟨rfl,k3⟩
        have KK3:=aa (aZ KK2.out S2 k3)
        have HB3:=aa (aZ HB2.out HB2.out.size k3)
        have HK3:=aa (aZ HK2.out (by omega) k3)
        have S3:wr.heap.size+1≤w3.heap.size:=S S2 k3.size
        clear p0 p1 p2 p3 p4 y0 y1 y2 k3 KK2 HB2 HK2 S2
        obtain⟨p0,p1,p2,p3,p4⟩:=HP.out w3 KK3.out
        obtain⟨y0,y1,y2⟩:=HY.out w3 HK3.out
        cases hb2:nm x.typ with
        | false=>
          have H3:=aa (show R=6 by
           have h4:cl N bh x=6:=by rw[cl,if_pos (.inr (.inr hb2))]
           have h5:edE N 0 E=6:=by rw[HF.out,HD.out,edE,if_neg (by rw[h4];decide),h4]
           rw[HR2.out,h5,if_neg (by decide)])
          clear HR2
          go_wp2_with fail
          go_ret
          exact⟨ag (by rw[H3.out]),HB3.out⟩
        | true=>
          have HO:=aa (show cl N bh x=if dE N x.frm=false∨dE N x.dst=false then 5 else bJ x.props by rw[cl,if_neg (by rw[HH1.out,hb2];simp;have:=HLE.out;omega)])
          go_wp2_with fail
          go_region
          have HT2:Hid (∀T',T'=max T x.id→ah≤T'∧x.id≤T'∧(T'=ah∨T'=x.id)):=by
           intro T' hT'
           have hT:=HTT.out
           have:=HLE.out
           omega
          have HT3:=aa (HT2.out (max T x.id) rfl)
          have HB4:=aa HB3.out.drew
          have HK4:=aa HK3.out.drew
          have KK4:=aa KK3.out.drew
          have S4:wr.heap.size+1≤w3.drew.heap.size:=by simpa using S3
          clear HT2 p0 p1 p2 p3 p4 y0 y1 y2 HB3 HK3 KK3 S3
          generalize max T x.id=T' at HT3 ⊢
          generalize w3.drew=w4 at HB4 HK4 KK4 S4 ⊢
          obtain⟨p0,p1,p2,p3,p4⟩:=HP.out w4 KK4.out
          obtain⟨y0,y1,y2⟩:=HY.out w4 HK4.out
          go_wp2_with fail
          refine(HAN.out x.frm _ HB4.out).mono ?_
          rintro e w5 ⟨hnil,k5⟩
          have KK5:=aa (aZ KK4.out S4 k5)
          have HB5:=aa (aZ HB4.out HB4.out.size k5)
          have HK5:=aa (aZ HK4.out (by omega) k5)
          have S5:wr.heap.size+1≤w5.heap.size:=S S4 k5.size
          clear p0 p1 p2 p3 p4 y0 y1 y2 k5 KK4 HB4 HK4 S4
          obtain⟨p0,p1,p2,p3,p4⟩:=HP.out w5 KK5.out
          obtain⟨y0,y1,y2⟩:=HY.out w5 HK5.out
          rcases hnil with⟨hh3,rfl⟩ | ⟨hh3,ad,rfl⟩
          ·have H3:=aa (show R=5 by
            have h4:cl N bh x=5:=by rw[HO.out,if_pos (.inl hh3)]
            have h5:edE N 0 E=5:=by rw[HF.out,HD.out,edE,if_neg (by rw[h4];decide),h4]
            rw[HR2.out,h5,if_neg (by decide)])
           clear HR2 hh3
           go_wp2_with fail
           go_ret
           exact⟨ag (by rw[H3.out]),HB5.out⟩
          ·have HH3:=aa hh3
           clear hh3
           go_wp2_with fail
           refine(HAN.out x.dst _ HB5.out).mono ?_
           rintro e w6 ⟨hnil,k6⟩
           have KK6:=aa (aZ KK5.out S5 k6)
           have HB6:=aa (aZ HB5.out HB5.out.size k6)
           have HK6:=aa (aZ HK5.out (by omega) k6)
           have S6:wr.heap.size+1≤w6.heap.size:=S S5 k6.size
           clear p0 p1 p2 p3 p4 y0 y1 y2 k6 KK5 HB5 HK5 S5
           obtain⟨p0,p1,p2,p3,p4⟩:=HP.out w6 KK6.out
           obtain⟨y0,y1,y2⟩:=HY.out w6 HK6.out
           rcases hnil with⟨hh4,rfl⟩ | ⟨hh4,ad2,rfl⟩
           ·have H3:=aa (show R=5 by
             have h4:cl N bh x=5:=by rw[HO.out,if_pos (.inr hh4)]
             have h5:edE N 0 E=5:=by rw[HF.out,HD.out,edE,if_neg (by rw[h4];decide),h4]
             rw[HR2.out,h5,if_neg (by decide)])
            clear HR2 hh4
            go_wp2_with fail
            go_ret
            exact⟨ag (by rw[H3.out]),HB6.out⟩
           ·have HO2:=aa (show cl N bh x=bJ x.props by rw[HO.out,if_neg (by rw[HH3.out,hh4];simp)])
            clear hh4
            go_wp2_with fail
            refine(HCE.out x HX.out _ HB6.out).mono ?_
            rintro e w7 ⟨rfl,k7⟩
            have HB7:=aa (aZ HB6.out HB6.out.size k7)
            have HK7:=aa (aZ HK6.out (by omega) k7)
            clear k7 p0 p1 p2 p3 p4 y0 y1 y2
            by_cases he2:bJ x.props=0
            ·have he2':(bJ x.props != 0)=false:=by simp[he2]
             have HE2:=aa he2
             clear he2
             go_wp2_with fail
             go_roundg (el-(i+1))
             case measure=>omega
             case rel=>
              have h5:cl N bh x=0:=by rw[HO2.out];exact HE2.out
              exact⟨i+1,x.id,T',by omega,by omega,rfl,rfl,by go_num,HT3.out,HK7.out,by rw[HF.out,HD.out,edE,if_pos h5],by rw[HLA.out,HM.out,bU]⟩
            ·have he2':(bJ x.props != 0)=true:=by simp[he2]
             have H3:=aa (show R=bJ x.props by
              have h5:edE N 0 E=bJ x.props:=by rw[HF.out,HD.out,edE,if_neg (by rw[HO2.out];exact he2),HO2.out]
              rw[HR2.out,h5,if_neg he2])
             clear he2 HR2
             go_wp2_with fail
             go_ret
             exact⟨ag (by rw[H3.out]),HB7.out⟩
       ·have H3:=aa (show R=6 by
         have h4:cl N bh x=6:=by rw[cl,if_pos (.inr (.inl hh1))]
         have h5:edE N 0 E=6:=by rw[HF.out,HD.out,edE,if_neg (by rw[h4];decide),h4]
         rw[HR2.out,h5,if_neg (by decide)])
        clear HR2 hh1
        go_wp2_with fail
        go_ret
        exact⟨ag (by rw[H3.out]),HB2.out⟩
     ·have hE0:edE N 0 E=0:=by rw[HF.out,I (by have:=HEL.out;omega)];rfl
      have HLN:=aa (show bU 0 (E.map Ed.id)=bh by rw[HLA.out,I (by have:=HEL.out;simp;omega)];rfl)
      have HR3:=aa (show R=if next≤ah∨next≤bh∨1099511627776<next then 9 else 0 by rw[HR2.out,if_pos hE0,HLN.out])
      clear HR2 hE0 HF HLA HLN
      obtain⟨y0,y1,y2⟩:=HY.out wr hbw
      have hw1:=aa hw0
      clear hw0 hbw
      go_wp2_with fail
      all_goals
       go_ret
       refine⟨ag ?_,hw1.out⟩
       have hT:=HTT.out
       rw[HR3.out]
       first
        | rw[if_pos (by omega)]
        | rw[if_neg (by omega)]
theorem oy {w:World} {N:List Nd} {E:List Ed} {na:Option Addr} {nl:Nat} {ea:Option Addr} {el:Nat} (h:iN w N E na nl ea el) (nc ec:Nat) (next:Int) (W:World) (k:Below w.heap.size w W) :
 Calls Tryz.prog 13 #[M #[A na nl nc,A ea el ec,C B next]] W fun e w'=>e=F (C B (gE N E next))∧Below W.heap.size W w':=by
 have h':=h.below k
 exact ju N E na nl nc ea el ec next W h'.1 h'.2.1 (fun x hx w' k'=>⟨i9 dv _ _ _ _ w' ((h'.2.2.1 x hx).1.below k'),nK x.pc (h'.2.2.1 x hx).2.1 (h'.2.2.1 x hx).2.2 w' k'⟩) (fun x hx w' k'=>nK x.pc (h'.2.2.2 x hx).1 (h'.2.2.2 x hx).2 w' k')
theorem gS {w:World} {N:List Nd} {E:List Ed} {na:Option Addr} {nl:Nat} {ea:Option Addr} {el:Nat} (h:iN w N E na nl ea el) (nc ec:Nat) (next:Int) (W:World) (k:Below w.heap.size w W) :
 Calls Tryz.prog 5 #[M #[A na nl nc,A ea el ec,C B next]] W fun e w'=>e=F (C B (gE N E next))∧Below W.heap.size W w':=by
 have h':=h.below k
 exact qZ N E na nl nc ea el ec next W h'.1 h'.2.1 (fun x hx w' k'=>⟨kR dT _ _ _ _ w' ((h'.2.2.1 x hx).1.below k'),gR x.pc (h'.2.2.1 x hx).2.1 (h'.2.2.1 x hx).2.2 w' k'⟩) (fun x hx w' k'=>gR x.pc (h'.2.2.2 x hx).1 (h'.2.2.2 x hx).2 w' k')
def uB (label:ByteArray) (x:Nd):Bool:=label.toList.isEmpty||wM x.labs label
def lbL (label:ByteArray) (N:List Nd):List Int:=(N.filter (uB label)).map Nd.id
theorem wC {label:ByteArray} {x:Nd} {N:List Nd} (h:uB label x=true):lbL label (x::N)=x.id::lbL label N:=by
 simp[lbL,h]
theorem wL {label:ByteArray} {x:Nd} {N:List Nd} (h:uB label x=false):lbL label (x::N)=lbL label N:=by
 simp[lbL,h]
def wP (w w':World) (er:Int) (L:List Int) (e:Ending):Prop:=
 (er≠0∧e=F (Q #[A none 0 0,C B er]))∨(er=0∧∃v,e=F (Q #[v,C B 0])∧w'.ownsRow w.heap.size 3 1 v L.length (ints L))
theorem pD (N:List Nd):∀(E:List Ed) (ah:Int),edE N ah E=0→ez (E.map Ed.id)∧(∀x ∈ E,ah<x.id∧dE N x.id=false∧nm x.typ=true∧dE N x.frm=true∧dE N x.dst=true∧bJ x.props=0)
 | [],ah,_=>⟨fun i j x y _ h=>by simp at h,fun x h=>by cases h⟩
 | x::r,ah,h=>by
   unfold edE at h
   split at h
   ·rename_i h1
    have h2:ah<x.id∧dE N x.id=false∧nm x.typ=true∧dE N x.frm=true∧dE N x.dst=true∧bJ x.props=0:=by
     unfold cl at h1
     split at h1
     ·exact absurd h1 (by decide)
     ·split at h1
      ·exact absurd h1 (by decide)
      ·rename_i h3 h4
       simp only[not_or,Bool.not_eq_true,Bool.not_eq_false] at h3 h4
       exact⟨by omega,h3.2.1,h3.2.2,h4.1,h4.2,h1⟩
    obtain⟨hr,hall⟩:=pD N r x.id h
    refine⟨fun i j u v hij hu hv=>?_,fun y hy=>?_⟩
    ·cases j with
     | zero=>omega
     | succ j=>
       cases i with
       | zero=>
         simp only[O,List.getElem?_cons_zero,Option.some.injEq] at hu
         simp only[O,List.getElem?_cons_succ] at hv
         obtain⟨y,hy,rfl⟩:=List.mem_map.1 (List.mem_of_getElem? hv)
         rw[←hu]
         exact(hall y hy).1
       | succ i=>
         simp only[O,List.getElem?_cons_succ] at hu hv
         exact hr i j u v (by omega) hu hv
    ·rcases List.mem_cons.1 hy with rfl | hy
     ·exact h2
     ·have:=hall y hy
      exact⟨by omega,this.2⟩
   ·rename_i h1
    exact absurd h h1
structure wy (N:List Nd) (E:List Ed):Prop where
 fewN:N.length≤40
 fewE:E.length≤60
 riseN:ez (N.map Nd.id)
 riseE:ez (E.map Ed.id)
 nodes:∀x ∈ N,b6 x.labs=0∧bJ x.props=0
 edges:∀x ∈ E,dE N x.id=false∧dE N x.frm=true∧dE N x.dst=true∧bJ x.props=0
theorem n7 {N:List Nd} {E:List Ed} {next:Int} (h:gE N E next=0):wy N E:=by
 unfold gE at h
 split at h
 ·exact absurd h (by decide)
 ·split at h
  ·split at h
   ·rename_i h1 h2 h3
    obtain⟨r1,a1⟩:=j6 N 0 h2
    obtain⟨r2,a2⟩:=pD N E 0 h3
    exact⟨by omega,by omega,r1,r2,fun x hx=>(a1 x hx).2,fun x hx=>⟨(a2 x hx).2.1,(a2 x hx).2.2.2.1,(a2 x hx).2.2.2.2.1,(a2 x hx).2.2.2.2.2⟩⟩
   ·rename_i h3
    exact absurd h h3
  ·rename_i h2
   exact absurd h h2
section
variable {w:World} {N:List Nd} {E:List Ed} {na:Option Addr} {nl:Nat} {ea:Option Addr} {el:Nat}
theorem wI (h:iN w N E na nl ea el) (nc ec:Nat) (next id:Int) (W:World) (k:Below w.heap.size w W) :
 Calls Tryz.prog 6 #[M #[A na nl nc,A ea el ec,C B next],C B id] W fun e w'=>pL (dE N id) e∧Below W.heap.size W w':=
 j4 N na nl nc ea el ec next id W (h.1.below k)
end
theorem uQ (label:ByteArray) (N:List Nd):(lbL label N).length≤N.length:=by
 unfold lbL
 rw[List.length_map]
 exact List.length_filter_le _ _
theorem vu (id:Int) (kind:ByteArray) (inn:Bool) (E:List Ed):(arL id kind inn E).length≤E.length:=by
 unfold arL
 rw[List.length_map]
 exact List.length_filter_le _ _
end Go.Proofs.YtijjpoohhgapoaaGreatDoor

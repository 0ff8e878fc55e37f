import Derived.Test.YtijjpoohhgapoaaGreatDoorVQAC
namespace Go.Proofs.YtijjpoohhgapoaaGreatDoor
open Go.RowKit
set_option linter.unusedVariables false
set_option maxHeartbeats 4000000
set_option maxRecDepth 100000
open Value renaming slice → A, int → F, string → H, agg → O
open IntKind renaming i64 → C
open Obj renaming cells → G
open Nat renaming le_refl → I, le_trans → S
open Ending renaming returned → J
open RowKit.Below renaming refl → K
open World renaming setCell → M
def dE (N:List Nd) (t:Int):Bool:=decide (t ∈ N.map Nd.id)
def dc (ah:Int) (x:Nd):Int:=if x.id≤ah then 6 else if b6 x.labs=0 then bJ x.props else b6 x.labs
def cl (N:List Nd) (ah:Int) (x:Ed):Int:=if x.id≤ah∨dE N x.id=true∨nm x.typ=false then 6 else if dE N x.frm=false∨dE N x.dst=false then 5 else bJ x.props
theorem pq (L:List Nd) (a:Option Addr) (l c:Nat) (t:Int) (w:World) (h:bF w L a l) (h60:l≤60) (hr:ez (L.map Nd.id)) :
 Calls Tryz.prog 73 #[A a l c,F C t] w fun e w'=>e=J (.bool (dE L t))∧Below w.heap.size w w':=by
 obtain⟨R,hR⟩:∃R,R=dE L t:=⟨_,rfl⟩
 rw[←hR]
 have HR:=aa hR
 have HC:=aa (lM L a l c t w h h60 hr)
 clear h hr hR
 go_enter Tryz.func73,Tryz.ntmps73
 go_wp2_with fail
 refine HC.out.mono ?_
 rintro e w1 ⟨⟨i,f,rfl,h1,h2⟩,k1⟩
 have H3:Hid (R=f):=by
  show R=f
  rw[HR.out,dE]
  cases f with
  | true=>exact decide_eq_true (List.mem_of_getElem? (h1 rfl))
  | false=>exact decide_eq_false (h2 rfl)
 clear h1 h2 HR HC
 go_wp2_with fail
 go_ret
 exact⟨aP (by rw[H3.out]),k1⟩
theorem uH (x y r:Int) (hr:r=if x=0 then y else x) (b:Nat) (w:World) (h0:w.cell? ⟨b,0,none⟩=some (F C x)) (h1:w.cell? ⟨b,1,none⟩=some (F C y)) :
 Calls Tryz.prog 70 #[A (some ⟨b,0,none⟩) 2 2] w fun e w'=>e=J (F C r)∧w'=w:=by
 have HR:=aa hr
 clear hr
 have cell:Hid (∀k,k<2→w.cell? ⟨b,k,none⟩=some (F C (if k=0 then x else y))):=fun k hk=>by
  have h3:k=0∨k=1:=by omega
  rcases h3 with rfl | rfl
  ·exact h0
  ·exact h1
 clear h0 h1
 go_enter Tryz.func70,Tryz.ntmps70
 go_wp2_with fail
 go_loopg [8] 2 (fun g s8 wr=>∃k:Nat,k≤2∧2-k≤g∧s8=F C k∧wr=w∧(0<k→x=0)∧(1<k→y=0))
 case atStart=>exact⟨0,by omega,by omega,rfl,rfl,by omega,by omega⟩
 case round=>
  obtain⟨k,hk,hg,rfl,rfl,q0,q1⟩:=hrel
  have Q0:=aa q0
  have Q1:=aa q1
  clear q0 q1
  by_cases hlt:k<2
  ·have hc:=cell.out k hlt
   obtain⟨v,hv⟩:∃v,v=(if k=0 then x else y):=⟨_,rfl⟩
   rw[←hv] at hc
   have HV:=aa hv
   clear hv
   by_cases he:v=0
   ·have he':(v != 0)=false:=by simp[he]
    have H2:=aa he
    clear he
    go_wp2_with fail
    go_roundg (2-(k+1))
    case measure=>omega
    case rel=>
     have hv0:(if k=0 then x else y)=0:=by rw[←HV.out];exact H2.out
     have h3:k=0∨k=1:=by omega
     refine⟨k+1,by omega,by omega,by go_num,rfl,fun _=>?_,fun hk1=>?_⟩
     ·rcases h3 with rfl | rfl
      ·simpa using hv0
      ·exact Q0.out (by omega)
     ·rcases h3 with rfl | rfl
      ·omega
      ·simpa using hv0
   ·have he':(v != 0)=true:=by simp[he]
    have H2:=aa he
    clear he
    go_wp2_with fail
    go_ret
    refine⟨ag ?_,rfl⟩
    have hv0:=H2.out
    rw[HV.out] at hv0 ⊢
    rw[HR.out]
    have h3:k=0∨k=1:=by omega
    rcases h3 with rfl | rfl
    ·simp at hv0 ⊢
     simp[hv0]
    ·have a0:=Q0.out (by omega)
     simp[a0]
  ·have hk3:k=2:=by omega
   have HK:=aa hk3
   clear cell
   go_wp2_with fail
   go_ret
   refine⟨ag ?_,rfl⟩
   have e:=HK.out
   rw[HR.out,Q0.out (by omega),Q1.out (by omega)]
   simp
theorem aZ {B:Nat} {w w1 w2:World} (h:Below B w w1) (hB:B≤w1.heap.size) (k:Below w1.heap.size w1 w2):Below B w w2:=h.trans (k.mono hB)
theorem mN (N:List Nd) (a:Option Addr) (l c:Nat) (ah:Int) (x:Ed) (w:World) (h:bF w N a l) (h60:l≤60) (hr:ez (N.map Nd.id)) (ht:x.typ.size≤9223372036854775807)
 (hP:∀w',Below w.heap.size w w'→Calls Tryz.prog 72 #[A x.pa x.pl x.pc] w' fun e w''=>e=J (F C (bJ x.props))∧Below w'.heap.size w' w'') :
 Calls Tryz.prog 37 #[x.val,F C ah,A a l c] w fun e w'=>e=J (F C (cl N ah x))∧Below w.heap.size w w':=by
 obtain⟨R,hR⟩:∃R,R=cl N ah x:=⟨_,rfl⟩
 rw[←hR]
 have HR:=aa hR
 have HP:=aa hP
 have HI:Hid (∀t W,Below w.heap.size w W→Calls Tryz.prog 73 #[A a l c,F C t] W fun e w'=>e=J (.bool (dE N t))∧Below W.heap.size W w'):=fun t W k=>pq N a l c t W (h.below k) h60 hr
 have HT:=aa ht
 clear hR hP h hr ht
 have b0:Below w.heap.size w (w.alloc (G #[F C x.id,F C x.frm,F C x.dst,H x.typ,A x.pa x.pl x.pc] 65)):=(K _ _).alloc (I _) _
 have z0:(w.alloc (G #[F C x.id,F C x.frm,F C x.dst,H x.typ,A x.pa x.pl x.pc] 65)).heap.size=w.heap.size+1:=by simp
 have hx:=ae w (G #[F C x.id,F C x.frm,F C x.dst,H x.typ,A x.pa x.pl x.pc] 65)
 have HY:Hid (∀W,Below (w.heap.size+1) (w.alloc (G #[F C x.id,F C x.frm,F C x.dst,H x.typ,A x.pa x.pl x.pc] 65)) W→W.cell? ⟨w.heap.size,0,none⟩=some (F C x.id)∧W.cell? ⟨w.heap.size,1,none⟩=some (F C x.frm)∧W.cell? ⟨w.heap.size,2,none⟩=some (F C x.dst)∧W.cell? ⟨w.heap.size,3,none⟩=some (H x.typ)∧W.cell? ⟨w.heap.size,4,none⟩=some (A x.pa x.pl x.pc)):=by
  intro W k
  have q:∀o,W.cell? ⟨w.heap.size,o,none⟩=_:=fun o=>(k.cell (p:=⟨w.heap.size,o,none⟩) (Nat.lt_succ_self _)).trans (ac hx o)
  exact⟨q 0,q 1,q 2,q 3,q 4⟩
 have B0:=aa b0
 have Z0:=aa z0
 clear hx b0 z0
 unfold Ed.val
 by_cases hid:x.id≤ah
 ·have H3:=aa (show R=6 by rw[HR.out,cl,if_pos (.inl hid)])
  clear HR
  go_enter Tryz.func37,Tryz.ntmps37
  go_wp2_with fail
  go_ret
  exact⟨ag (by rw[H3.out]),B0.out⟩
 ·go_enter Tryz.func37,Tryz.ntmps37
  go_wp2_with fail
  refine(HI.out _ _ B0.out).mono ?_
  have K0:=aa (K (w.heap.size+1) (w.alloc (G #[F C x.id,F C x.frm,F C x.dst,H x.typ,A x.pa x.pl x.pc] 65)))
  generalize w.alloc (G #[F C x.id,F C x.frm,F C x.dst,H x.typ,A x.pa x.pl x.pc] 65)=W0 at HY B0 Z0 K0 ⊢
  rintro e w1 ⟨rfl,k1⟩
  have K1:=aa (aZ K0.out (by rw[Z0.out];exact I _) k1)
  have B1:=aa (aZ B0.out B0.out.size k1)
  have S1:w.heap.size+1≤w1.heap.size:=by have:=k1.size;rw[Z0.out] at this;exact this
  obtain⟨p0,p1,p2,p3,p4⟩:=HY.out w1 K1.out
  clear k1 K0
  cases hb1:dE N x.id with
  | true=>
    have H3:=aa (show R=6 by rw[HR.out,cl,if_pos (.inr (.inl hb1))])
    clear HR
    go_wp2_with fail
    go_ret
    exact⟨ag (by rw[H3.out]),B1.out⟩
  | false=>
    go_wp2_with fail
    refine(dv _ _ HT.out).mono ?_
    rintro e w2 ⟨rfl,k2⟩
    have K2:=aa (aZ K1.out S1 k2)
    have B2:=aa (aZ B1.out B1.out.size k2)
    have S2:w.heap.size+1≤w2.heap.size:=S S1 k2.size
    clear p0 p1 p2 p3 p4 K1 B1 S1 k2
    obtain⟨p0,p1,p2,p3,p4⟩:=HY.out w2 K2.out
    cases hb2:nm x.typ with
    | false=>
      have H3:=aa (show R=6 by rw[HR.out,cl,if_pos (.inr (.inr hb2))])
      clear HR
      go_wp2_with fail
      go_ret
      exact⟨ag (by rw[H3.out]),B2.out⟩
    | true=>
      have HR2:=aa (show R=if dE N x.frm=false∨dE N x.dst=false then 5 else bJ x.props by rw[HR.out,cl,if_neg (by simp[hid,hb1,hb2])])
      clear HR
      go_wp2_with fail
      refine(HI.out _ _ B2.out).mono ?_
      rintro e w3 ⟨rfl,k3⟩
      have K3:=aa (aZ K2.out S2 k3)
      have B3:=aa (aZ B2.out B2.out.size k3)
      have S3:w.heap.size+1≤w3.heap.size:=S S2 k3.size
      clear p0 p1 p2 p3 p4 K2 B2 S2 k3
      obtain⟨p0,p1,p2,p3,p4⟩:=HY.out w3 K3.out
      cases hb3:dE N x.frm with
      | false=>
        have H3:=aa (show R=5 by rw[HR2.out,if_pos (.inl hb3)])
        clear HR2
        go_wp2_with fail
        go_ret
        exact⟨ag (by rw[H3.out]),B3.out⟩
      | true=>
        go_wp2_with fail
        refine(HI.out _ _ B3.out).mono ?_
        rintro e w4 ⟨rfl,k4⟩
        have K4:=aa (aZ K3.out S3 k4)
        have B4:=aa (aZ B3.out B3.out.size k4)
        have S4:w.heap.size+1≤w4.heap.size:=S S3 k4.size
        clear p0 p1 p2 p3 p4 K3 B3 S3 k4
        obtain⟨p0,p1,p2,p3,p4⟩:=HY.out w4 K4.out
        cases hb4:dE N x.dst with
        | false=>
          have H3:=aa (show R=5 by rw[HR2.out,if_pos (.inr hb4)])
          clear HR2
          go_wp2_with fail
          go_ret
          exact⟨ag (by rw[H3.out]),B4.out⟩
        | true=>
          have H3:=aa (show R=bJ x.props by rw[HR2.out,if_neg (by simp[hb3,hb4])])
          clear HR2
          go_wp2_with fail
          refine(HP.out _ B4.out).mono ?_
          rintro e w5 ⟨rfl,k5⟩
          have B5:=aa (aZ B4.out B4.out.size k5)
          go_wp2_with fail
          go_ret
          exact⟨ag (by rw[H3.out]),B5.out⟩
theorem mM (ah:Int) (x:Nd) (w:World)
 (hL:∀w',Below w.heap.size w w'→Calls Tryz.prog 71 #[A x.la x.ll x.lc] w' fun e w''=>e=J (F C (b6 x.labs))∧Below w'.heap.size w' w'')
 (hP:∀w',Below w.heap.size w w'→Calls Tryz.prog 72 #[A x.pa x.pl x.pc] w' fun e w''=>e=J (F C (bJ x.props))∧Below w'.heap.size w' w'') :
 Calls Tryz.prog 36 #[x.val,F C ah] w fun e w'=>e=J (F C (dc ah x))∧Below w.heap.size w w':=by
 obtain⟨R,hR⟩:∃R,R=dc ah x:=⟨_,rfl⟩
 rw[←hR]
 have HR:=aa hR
 have HL:=aa hL
 have HP:=aa hP
 clear hR hL hP
 have b0:Below w.heap.size w (w.alloc (G #[F C x.id,A x.la x.ll x.lc,A x.pa x.pl x.pc] 61)):=(K _ _).alloc (I _) _
 have z0:(w.alloc (G #[F C x.id,A x.la x.ll x.lc,A x.pa x.pl x.pc] 61)).heap.size=w.heap.size+1:=by simp
 have hx:=ae w (G #[F C x.id,A x.la x.ll x.lc,A x.pa x.pl x.pc] 61)
 have x1:(w.alloc (G #[F C x.id,A x.la x.ll x.lc,A x.pa x.pl x.pc] 61)).cell? ⟨w.heap.size,1,none⟩=some (A x.la x.ll x.lc):=ac hx 1
 have x2:(w.alloc (G #[F C x.id,A x.la x.ll x.lc,A x.pa x.pl x.pc] 61)).cell? ⟨w.heap.size,2,none⟩=some (A x.pa x.pl x.pc):=ac hx 2
 have B0:=aa b0
 have Z0:=aa z0
 have X1:=aa x1
 have X2:=aa x2
 clear hx b0 z0 x1 x2
 unfold Nd.val
 by_cases hid:x.id≤ah
 ·have H3:=aa (show R=6 by rw[HR.out,dc,if_pos hid])
  clear HR
  go_enter Tryz.func36,Tryz.ntmps36
  go_wp2_with fail
  go_ret
  exact⟨ag (by rw[H3.out]),B0.out⟩
 ·obtain⟨e1,he1⟩:∃e1,e1=b6 x.labs:=⟨_,rfl⟩
  obtain⟨e2,he2⟩:∃e2,e2=bJ x.props:=⟨_,rfl⟩
  have H3:=aa (show R=if e1=0 then e2 else e1 by rw[HR.out,dc,if_neg hid,he1,he2])
  rw[←he1] at HL
  rw[←he2] at HP
  clear HR he1 he2
  go_enter Tryz.func36,Tryz.ntmps36
  go_wp2_with fail
  have x1:=X1.out
  have x2:=X2.out
  have s7:w.heap.size<(w.alloc (G #[F C x.id,A x.la x.ll x.lc,A x.pa x.pl x.pc] 61)).heap.size:=by rw[Z0.out];exact Nat.lt_succ_self _
  generalize w.alloc (G #[F C x.id,A x.la x.ll x.lc,A x.pa x.pl x.pc] 61)=W at x1 x2 s7 B0 Z0 X1 X2 ⊢
  have D0:Below W.heap.size W W.drew:=(K _ _).drew
  go_region_held3 (fun w'=>w'.cell? ⟨w.heap.size,1,none⟩=some (A x.la x.ll x.lc)∧w'.cell? ⟨w.heap.size,2,none⟩=some (A x.pa x.pl x.pc))
   (first
     | exact S4
     | exact S3
     | exact S2
     | exact S1
     | exact⟨x1,x2⟩
     | go_keep)
   (first
     | (go_at_call 71;refine(HL.out _ (aZ B0.out B0.out.size D0)).mono ?_;rintro e u1 ⟨rfl,h1⟩;have k1:Below W.heap.size W u1:=D0.trans h1;have S1:u1.cell? ⟨w.heap.size,1,none⟩=some (A x.la x.ll x.lc)∧u1.cell? ⟨w.heap.size,2,none⟩=some (A x.pa x.pl x.pc):=⟨(k1.cell (p:=⟨w.heap.size,1,none⟩) s7).trans x1,(k1.cell (p:=⟨w.heap.size,2,none⟩) s7).trans x2⟩)
     | (go_at_call 72;refine(HP.out _ (aZ B0.out B0.out.size k1)).mono ?_;rintro e u2 ⟨rfl,h2⟩;have k2:Below W.heap.size W u2:=aZ k1 k1.size h2;have S2:u2.cell? ⟨w.heap.size,1,none⟩=some (A x.la x.ll x.lc)∧u2.cell? ⟨w.heap.size,2,none⟩=some (A x.pa x.pl x.pc):=⟨(k2.cell (p:=⟨w.heap.size,1,none⟩) s7).trans x1,(k2.cell (p:=⟨w.heap.size,2,none⟩) s7).trans x2⟩;have k3:Below W.heap.size W (u2.alloc (G #[F C e1,F C e2] 34)):=k2.alloc k2.size _;have S3:(u2.alloc (G #[F C e1,F C e2] 34)).cell? ⟨w.heap.size,1,none⟩=some (A x.la x.ll x.lc)∧(u2.alloc (G #[F C e1,F C e2] 34)).cell? ⟨w.heap.size,2,none⟩=some (A x.pa x.pl x.pc):=⟨(k3.cell (p:=⟨w.heap.size,1,none⟩) s7).trans x1,(k3.cell (p:=⟨w.heap.size,2,none⟩) s7).trans x2⟩)
     | (go_at_call 70;refine(uH e1 e2 R H3.out u2.heap.size (u2.alloc (G #[F C e1,F C e2] 34)) (ac (ae u2 _) 0) (ac (ae u2 _) 1)).mono ?_;rintro e u4 ⟨rfl,rfl⟩))
  all_goals
   go_wp2_with fail
   go_ret
   exact⟨rfl,aZ B0.out B0.out.size k3⟩
theorem fT (a:Option Addr) (c:Nat) (w:World):Calls Tryz.prog 57 #[A a 0 c] w fun e w'=>e=J (A none 0 0)∧Below w.heap.size w w':=by
 have b0:Below w.heap.size w (w.alloc (G #[A none 0 0] 28)):=(K _ _).alloc (I _) _
 have hx:=ae w (G #[A none 0 0] 28)
 have y0:(w.alloc (G #[A none 0 0] 28)).cell? ⟨w.heap.size,0,none⟩=some (A none 0 0):=ac hx 0
 have B0:=aa b0
 clear b0 hx
 have hp:∀W,Sem.run Tryz.prog (pure (#[]:Array Value)) W = .ok #[] W:=fun _=>rfl
 cases a with
 | none=>
   go_enter Tryz.func57,Tryz.ntmps57
   go_wp2_with fail
   go_loopg [4] 1 (fun g s4 wr=>∃k:Nat,k≤1∧k≤g∧s4=A (some ⟨w.heap.size,0,none⟩) k 1∧wr=w.alloc (G #[A none 0 0] 28))
   case atStart=>exact⟨1,I _,I _,rfl,rfl⟩
   case round=>
    obtain⟨k,hk,hg,rfl,rfl⟩:=hrel
    by_cases hk1:k=1
    ·subst hk1
     go_wp2_with fail
     go_loopg [4,28] 0 (fun g s4 s28 wq=>s4=A (some ⟨w.heap.size,0,none⟩) 0 1∧s28=F C 0∧wq=w.alloc (G #[A none 0 0] 28))
     case atStart=>exact⟨rfl,rfl,rfl⟩
     case round=>
      obtain⟨rfl,rfl,rfl⟩:=hrel
      go_wp2_with fail
      go_roundg 0
      case measure=>omega
      case rel=>exact⟨0,by omega,by omega,rfl,rfl⟩
    ·have hk0:k=0:=by omega
     subst hk0
     go_wp2_with fail
     go_ret
     exact⟨rfl,B0.out⟩
 | some ad=>
   go_enter Tryz.func57,Tryz.ntmps57
   go_wp2_with fail
   go_loopg [4] 1 (fun g s4 wr=>∃k:Nat,k≤1∧k≤g∧s4=A (some ⟨w.heap.size,0,none⟩) k 1∧wr=w.alloc (G #[A none 0 0] 28))
   case atStart=>exact⟨1,I _,I _,rfl,rfl⟩
   case round=>
    obtain⟨k,hk,hg,rfl,rfl⟩:=hrel
    by_cases hk1:k=1
    ·subst hk1
     go_wp2_with fail
     go_loopg [4,28] 0 (fun g s4 s28 wq=>s4=A (some ⟨w.heap.size,0,none⟩) 0 1∧s28=F C 0∧wq=w.alloc (G #[A none 0 0] 28))
     case atStart=>exact⟨rfl,rfl,rfl⟩
     case round=>
      obtain⟨rfl,rfl,rfl⟩:=hrel
      go_wp2_with fail
      go_roundg 0
      case measure=>omega
      case rel=>exact⟨0,by omega,by omega,rfl,rfl⟩
    ·have hk0:k=0:=by omega
     subst hk0
     go_wp2_with fail
     go_ret
     exact⟨rfl,B0.out⟩
theorem fe (w:World) (b:Nat) (v0 v1 v2 v3:Value):Below b w (bC w b v0 v1 v2 v3):=
 ((((K _ _).setCell (p:=⟨b,0,none⟩) (I _) _).setCell (p:=⟨b,1,none⟩) (I _) _).setCell (p:=⟨b,2,none⟩) (I _) _).setCell (p:=⟨b,3,none⟩) (I _) _
theorem fd (w:World) (b:Nat) (v0 v1 v2 v3:Value):(bC w b v0 v1 v2 v3).heap.size=w.heap.size:=by simp[bC,M]
def jL (W w':World) (L:List T) (l:Nat) (e:Ending):Prop:=∃a' c',e=J (A a' l c')∧l≤c'∧ap (fun i=>W.heap.size≤i) w' L a' l
def pK (W w':World) (k n:Int) (s:ByteArray) (L:List T) (l:Nat) (e:Ending):Prop:=∃a' c',e=J (O #[F C k,F C n,H s,A a' l c'])∧l≤c'∧ap (fun i=>W.heap.size≤i) w' L a' l
theorem kS {w:World} {b:Nat} {c0 c1 c2 c3:Value} {t:TypeId} (h:w.heap[b]? = some (G #[c0,c1,c2,c3] t (0,0))) (v:Value):(w.setCell ⟨b,3,none⟩ v).heap[b]? = some (G #[c0,c1,c2,v] t (0,0)):=by
 simp[M,Array.getElem?_modify,h]
theorem m6 (k n:Int) (s:ByteArray) (a:Option Addr) (l c:Nat) (L:List T) (w:World)
 (hV:∀W,Below w.heap.size w W→Calls Tryz.prog 57 #[A a l c] W fun e w'=>jL W w' L l e∧Below W.heap.size W w') :
 Calls Tryz.prog 17 #[O #[F C k,F C n,H s,A a l c]] w fun e w'=>pK w w' k n s L l e∧Below w.heap.size w w':=by
 have HV:=aa hV
 clear hV
 have b0:Below w.heap.size w ((w.alloc (G #[F C k,F C n,H s,A a l c] 30)).alloc (G #[F C 0,F C 0,H ⟨#[]⟩,A none 0 0] 30)):=((K _ _).alloc (I _) _).alloc (by simp) _
 have hx:=(Below.heap_alloc (w.alloc (G #[F C k,F C n,H s,A a l c] 30)) (G #[F C 0,F C 0,H ⟨#[]⟩,A none 0 0] 30) w.heap.size (by simp)).trans (ae w (G #[F C k,F C n,H s,A a l c] 30))
 have hy:=ay w (G #[F C k,F C n,H s,A a l c] 30) (G #[F C 0,F C 0,H ⟨#[]⟩,A none 0 0] 30)
 have z0:((w.alloc (G #[F C k,F C n,H s,A a l c] 30)).alloc (G #[F C 0,F C 0,H ⟨#[]⟩,A none 0 0] 30)).heap.size=w.heap.size+2:=by simp
 have HB:=aa b0
 have HX:=aa hx
 have HY:=aa hy
 have HZ:=aa z0
 clear b0 hx hy z0
 go_enter Tryz.func17,Tryz.ntmps17
 go_wp2_with fail
 refine(HV.out _ HB.out).mono ?_
 generalize (w.alloc (G #[F C k,F C n,H s,A a l c] 30)).alloc (G #[F C 0,F C 0,H ⟨#[]⟩,A none 0 0] 30)=W at HB HX HY HZ ⊢
 rintro e w1 ⟨⟨a',c',rfl,hlc,hL⟩,k1⟩
 have s1:w.heap.size+2≤w1.heap.size:=by have:=k1.size;rw[HZ.out] at this;exact this
 have c1:=HB.out.trans (k1.mono HB.out.size)
 have hv1:=(k1.block w.heap.size (by rw[HZ.out];omega)).trans HX.out
 have hr1:=(k1.block (w.heap.size+1) (by rw[HZ.out];omega)).trans HY.out
 have hv2:=kS hv1 (A a' l c')
 have hr2:=(Below.heap_setCell w1 ⟨w.heap.size,3,none⟩ (A a' l c') (w.heap.size+1) (by show w.heap.size+1≠w.heap.size;omega)).trans hr1
 have hL2:ap (fun i=>w.heap.size+2≤i) (w1.setCell ⟨w.heap.size,3,none⟩ (A a' l c')) L a' l:=ap.kept (by simp[M]) (fun i hi _=>⟨by have:=HZ.out;omega,Below.heap_setCell _ _ _ i (by show i≠w.heap.size;have:=HZ.out;omega)⟩) _ _ _ hL
 have c2:Below w.heap.size w (w1.setCell ⟨w.heap.size,3,none⟩ (A a' l c')):=c1.setCell (p:=⟨w.heap.size,3,none⟩) (I _) _
 have s2:(w1.setCell ⟨w.heap.size,3,none⟩ (A a' l c')).heap.size=w1.heap.size:=by simp[M]
 have x3:=ac hv1 3
 have f3:=aj hv1 3
 simp at x3
 have HV2:=aa hv2
 have HR2:=aa hr2
 have HL2:=aa hL2
 have HC2:=aa c2
 have HS2:=aa s2
 have hlt:w.heap.size<w1.heap.size:=by omega
 clear hv1 hr1 hv2 hr2 hL2 c2 s2 k1 c1 hL
 obtain⟨X,hX⟩:∃X,X=w1.setCell ⟨w.heap.size,3,none⟩ (A a' l c'):=⟨_,rfl⟩
 rw[←hX] at HV2 HR2 HL2 HC2 HS2
 obtain⟨q0,q1,q2,q3⟩:=ai HV2.out
 simp at q0 q1 q2 q3
 obtain⟨r0,r1,r2,r3⟩:=ai HR2.out
 simp at r0 r1 r2 r3
 obtain⟨g0,g1,g2,g3⟩:=aq HR2.out
 have hXs:w1.setCell ⟨w.heap.size,3,none⟩ (A a' l c')=X:=hX.symm
 have E:=aQ HR2.out (F C k) (F C n) (H s) (A a' l c')
 have hbb:Below w.heap.size w (bC X (w.heap.size+1) (F C k) (F C n) (H s) (A a' l c')):=HC2.out.trans ((fe X (w.heap.size+1) _ _ _ _).mono (by omega))
 have hLL:ap (fun i=>w.heap.size≤i) (bC X (w.heap.size+1) (F C k) (F C n) (H s) (A a' l c')) L a' l:=ap.kept (by rw[fd];exact I _) (fun i hi h2=>⟨by omega,oX _ _ _ _ _ _ i (by omega) h2⟩) _ _ _ HL2.out
 have HE:=aa E
 have HBB:=aa hbb
 have HLL:=aa hLL
 clear hX E hbb hLL HV2 HR2 HL2 HC2 HS2
 go_wp2_with fail
 have eP:∀X:World,(((X.setCell ⟨w.heap.size+1,0,none⟩ (F C k)).setCell ⟨w.heap.size+1,1,none⟩ (F C n)).setCell ⟨w.heap.size+1,2,none⟩ (H s)).setCell ⟨w.heap.size+1,3,none⟩ (A a' l c')=bC X (w.heap.size+1) (F C k) (F C n) (H s) (A a' l c'):=fun _=>rfl
 rw[eP]
 have E:=HE.out
 have hbb:=HBB.out
 have hLL:=HLL.out
 clear HE HBB HLL
 generalize bC X (w.heap.size+1) (F C k) (F C n) (H s) (A a' l c')=Y at E hbb hLL ⊢
 obtain⟨t0,t1,t2,t3⟩:=ai E
 simp at t0 t1 t2 t3
 exact bodyPost_ret (v:=O #[F C k,F C n,H s,A a' l c']) (by simp[results,Tryz.results17,go_sem,t0,t1,t2,t3]) rfl ⟨⟨a',c',rfl,hlc,hLL⟩,hbb⟩
structure Pd where
 g:Nat
 cap:Nat
 L:List T
def Pd.val (p:Pd):Value:=A (some ⟨p.g,0,none⟩) p.L.length p.cap
def dB (P:List Pd):List Value:=P.map Pd.val
def pdW:List Pd→Nat
 | []=>0
 | p::r=>wtL p.L+pdW r
theorem dS:∀(P Q:List Pd),pdW (P++Q)=pdW P+pdW Q
 | [],Q=>by simp[pdW]
 | p::P,Q=>by
   have:=dS P Q
   simp only[List.cons_append,pdW]
   omega
theorem oG:∀(L:List T),1≤wtL L
 | []=>by unfold wtL;exact I _
 | t::ts=>by
   have:=oG ts
   unfold wtL
   omega
theorem lJ:∀(P:List Pd),P.length≤pdW P
 | []=>I _
 | p::P=>by
   have:=lJ P
   have:=oG p.L
   simp only[List.length_cons,pdW]
   omega
def sX (news:List Pd) (Lt:List T) (v:Value):Prop:=(Lt = []∧v=A none 0 0)∨∃q ∈ news,q.L=Lt∧Lt.length≤9223372036854775807∧∃c',v=A (some ⟨q.g,0,none⟩) Lt.length c'∧Lt.length≤c'
def Mix (W w:World) (g:Nat) (L:List T) (i:Nat) (news:List Pd):Prop:=
 ∃cu:Array Value,w.heap[g]? = some (G cu 30 (0,0))∧∀(j:Nat) (k n:Int) (s:ByteArray) (Lt:List T),L[j]? = some (.node k n s Lt)→s.size≤9223372036854775807∧cu[j*4]? = some (F C k)∧cu[j*4+1]? = some (F C n)∧cu[j*4+2]? = some (H s)∧∃v,cu[j*4+3]? = some v∧(j<i→sX news Lt v)∧(i≤j→∃a l c,v=A a l c∧l≤c∧am W Lt a l)
theorem sX.more {news news':List Pd} {Lt:List T} {v:Value} (h:sX news Lt v) (hs:∀q ∈ news,q ∈ news'):sX news' Lt v:=by
 rcases h with h | ⟨q,hq,h⟩
 ·exact .inl h
 ·exact .inr ⟨q,hs q hq,h⟩
theorem Mix.kept {W w w':World} {g:Nat} {L:List T} {i:Nat} {news:List Pd} (h:Mix W w g L i news) (e:w'.heap[g]? = w.heap[g]?):Mix W w' g L i news:=by
 obtain⟨cu,h1,h2⟩:=h
 exact⟨cu,e.trans h1,h2⟩
theorem Mix.put {W w w':World} {g:Nat} {L:List T} {i:Nat} {news news':List Pd} {k n:Int} {s:ByteArray} {Lt:List T} {v:Value} (h:Mix W w g L i news) (hi:L[i]? = some (.node k n s Lt)) (hn:sX news' Lt v) (hs:∀q ∈ news,q ∈ news')
 (hw:∀cu,w.heap[g]? = some (G cu 30 (0,0))→∃cu',w'.heap[g]? = some (G cu' 30 (0,0))∧(∀x,x≠i*4+3→cu'[x]? = cu[x]?)∧(i*4+3<cu.size→cu'[i*4+3]? = some v)):Mix W w' g L (i+1) news':=by
 obtain⟨cu,h1,h2⟩:=h
 obtain⟨cu',h3,h4,h5⟩:=hw cu h1
 refine⟨cu',h3,fun j k' n' s' Lt' hj=>?_⟩
 obtain⟨a0,a1,a2,a3,v0,a4,a5,a6⟩:=h2 j k' n' s' Lt' hj
 refine⟨a0,(h4 _ (by omega)).trans a1,(h4 _ (by omega)).trans a2,(h4 _ (by omega)).trans a3,?_⟩
 by_cases hji:j=i
 ·subst hji
  rw[hi] at hj
  injection hj with hj
  injection hj with e1 e2 e3 e4
  subst e4
  exact⟨v,h5 (Array.getElem?_eq_some_iff.1 a4).1,fun _=>hn,fun h=>by omega⟩
 ·refine⟨v0,(h4 _ (by omega)).trans a4,fun h=>(a5 (by omega)).more hs,fun h=>a6 (by omega)⟩
def iM (W w:World) (L0:List T) (g0:Nat) (P:List Pd) (D:Nat→Prop):Prop:=
 ∀w':World,w.heap.size≤w'.heap.size→(∀i,D i→w'.heap[i]? = w.heap[i]?)→(∀p ∈ P,ap (fun i=>W.heap.size≤i) w' p.L (some ⟨p.g,0,none⟩) p.L.length)→ap (fun i=>W.heap.size≤i) w' L0 (some ⟨g0,0,none⟩) L0.length
theorem iM.kept {W w w1:World} {L0:List T} {g0:Nat} {P:List Pd} {D:Nat→Prop} (h:iM W w L0 g0 P D) (hz:w.heap.size≤w1.heap.size) (hD:∀i,D i→w1.heap[i]? = w.heap[i]?):iM W w1 L0 g0 P D:=
 fun w' z d p=>h w' (S hz z) (fun i hi=>(d i hi).trans (hD i hi)) p
theorem tE {W w w':World} {g:Nat} {L:List T} {news:List Pd} (h:Mix W w g L L.length news) (hl:L.length≤9223372036854775807) (hg:W.heap.size≤g) (hg':g<w'.heap.size) (e:w'.heap[g]? = w.heap[g]?) (hn:∀q ∈ news,ap (fun i=>W.heap.size≤i) w' q.L (some ⟨q.g,0,none⟩) q.L.length) :
 ap (fun i=>W.heap.size≤i) w' L (some ⟨g,0,none⟩) L.length:=by
 obtain⟨cu,h1,h2⟩:=h.kept e
 have cell:∀o v,cu[o]? = some v→w'.cell? ⟨g,o,none⟩=some v:=fun o v hv=>(ac h1 o).trans hv
 have all:∀m,m≤L.length→ap (fun i=>W.heap.size≤i) w' (L.drop (L.length-m)) (some ⟨g,(L.length-m)*4,none⟩) m:=by
  intro m
  induction m with
  | zero=>
    intro _
    rw[Nat.sub_zero,List.drop_length]
    unfold ap
    rfl
  | succ m ih=>
    intro hm
    have ih:=ih (by omega)
    obtain⟨j,hj⟩:∃j,j=L.length-(m+1):=⟨_,rfl⟩
    have hj':L.length-m=j+1:=by omega
    have hjl:j<L.length:=by omega
    have hm63:m+1≤9223372036854775807:=by omega
    have hlen:(L.drop (j+1)).length=m:=by rw[List.length_drop];omega
    rw[←hj]
    rw[hj'] at ih
    obtain⟨t,ht,hd⟩:=aF (L:=L) (i:=j) (by omega)
    obtain⟨k,n,s,Lt⟩:=t
    obtain⟨a0,a1,a2,a3,v,a4,a5,_⟩:=h2 j k n s Lt ht
    rw[hd]
    unfold ap
    refine⟨g,j*4,rfl,by rw[hlen],hm63,hg,hg',?_,?_⟩
    ·unfold fE
     refine⟨a0,?_⟩
     have hN:=a5 hjl
     rcases hN with⟨rfl,rfl⟩ | ⟨q,hq,rfl,_,c',rfl,hc'⟩
     ·exact⟨none,0,0,cell _ _ a1,cell _ _ a2,cell _ _ a3,cell _ _ a4,I _,by unfold ap;rfl⟩
     ·exact⟨_,_,c',cell _ _ a1,cell _ _ a2,cell _ _ a3,cell _ _ a4,hc',hn q hq⟩
    ·rw[hlen]
     rw[show j*4+4=(j+1)*4 from by omega]
     exact ih
 have:=all L.length (I _)
 rw[Nat.sub_self,List.drop_zero,Nat.zero_mul] at this
 exact this
theorem iM.next {W w:World} {L0:List T} {g0:Nat} {P news:List Pd} {p:Pd} {D:Nat→Prop} (h:iM W w L0 g0 (P ++ [p]) D) (hm:Mix W w p.g p.L p.L.length news) (hl:p.L.length≤9223372036854775807) (hg:W.heap.size≤p.g) (hg':p.g<w.heap.size):iM W w L0 g0 (P++news) (fun i=>D i∨i=p.g):=by
 intro w' z d hp
 refine h w' z (fun i hi=>d i (.inl hi)) fun q hq=>?_
 rcases List.mem_append.1 hq with hq | hq
 ·exact hp q (List.mem_append_left _ hq)
 ·obtain rfl:=List.mem_singleton.1 hq
  exact tE hm hl hg (by omega) (d _ (.inr rfl)) (fun r hr=>hp r (List.mem_append_right _ hr))
structure Sep (W w:World) (P:List Pd) (D:Nat→Prop) (sb:Nat):Prop where
 pend:∀p ∈ P,W.heap.size≤p.g∧p.g<w.heap.size∧p.g≠sb∧¬D p.g∧0<p.L.length∧p.L.length≤9223372036854775807∧Mix W w p.g p.L 0 []
 once:(P.map Pd.g).Nodup
 done:∀i,D i→i<w.heap.size∧i≠sb
theorem Sep.kept {W w w1:World} {P:List Pd} {D:Nat→Prop} {sb sb1:Nat} (h:Sep W w P D sb) (hz:w.heap.size≤w1.heap.size) (hk:∀p ∈ P,w1.heap[p.g]? = w.heap[p.g]?) (hs:sb1=sb∨w.heap.size≤sb1):Sep W w1 P D sb1:=by
 refine⟨fun p hp=>?_,h.once,fun i hi=>?_⟩
 ·obtain⟨h1,h2,h3,h4,h5,h6,h7⟩:=h.pend p hp
  exact⟨h1,by omega,by omega,h4,h5,h6,h7.kept (hk p hp)⟩
 ·obtain⟨h1,h2⟩:=h.done i hi
  exact⟨by omega,by omega⟩
theorem Sep.more {W w:World} {P:List Pd} {D:Nat→Prop} {sb:Nat} {q:Pd} (h:Sep W w P D sb) (h1:W.heap.size≤q.g∧q.g<w.heap.size∧q.g≠sb∧¬D q.g∧0<q.L.length∧q.L.length≤9223372036854775807∧Mix W w q.g q.L 0 []) (h2:∀p ∈ P,p.g≠q.g):Sep W w (P ++ [q]) D sb:=by
 refine⟨fun p hp=>?_,?_,h.done⟩
 ·rcases List.mem_append.1 hp with hp | hp
  ·exact h.pend p hp
  ·obtain rfl:=List.mem_singleton.1 hp
   exact h1
 ·rw[List.map_append,List.nodup_append]
  refine⟨h.once,by simp,fun a ha b hb=>?_⟩
  obtain⟨p,hp,rfl⟩:=List.mem_map.1 ha
  simp at hb
  subst hb
  exact h2 p hp
theorem Sep.pop {W w:World} {P:List Pd} {D:Nat→Prop} {sb:Nat} {p:Pd} (h:Sep W w (P ++ [p]) D sb):Sep W w P (fun i=>D i∨i=p.g) sb:=by
 have hn:=h.once
 rw[List.map_append,List.nodup_append] at hn
 obtain⟨hp1,hp2,hp3,_⟩:=h.pend p (List.mem_append_right _ (List.mem_singleton_self _))
 refine⟨fun q hq=>?_,hn.1,fun i hi=>?_⟩
 ·obtain⟨h1,h2,h3,h4,h5⟩:=h.pend q (List.mem_append_left _ hq)
  refine⟨h1,h2,h3,fun hd=>?_,h5⟩
  rcases hd with hd | hd
  ·exact h4 hd
  ·exact hn.2.2 q.g (List.mem_map_of_mem hq) p.g (by simp) hd
 ·rcases hi with hi | rfl
  ·exact h.done i hi
  ·exact⟨hp2,hp3⟩
theorem fC {w:World}:∀(L:List T) (b off:Nat),am w L (some ⟨b,off,none⟩) L.length→∃cs:List Value,cs.length=L.length*4∧(∀j u,cs[j]? = some u→w.cell? ⟨b,off+j,none⟩=some u)∧(∀u ∈ cs,u.oneCell'=true)∧∀(j:Nat) (k n:Int) (s:ByteArray) (Lt:List T),L[j]? = some (.node k n s Lt)→s.size≤9223372036854775807∧cs[j*4]? = some (F C k)∧cs[j*4+1]? = some (F C n)∧cs[j*4+2]? = some (H s)∧∃a l c,cs[j*4+3]? = some (A a l c)∧l≤c∧am w Lt a l
 | [],b,off,_=>⟨[],rfl,(fun j u h=>by simp at h),(fun u h=>by cases h),(fun j k n s Lt h=>by simp at h)⟩
 | .node k n s Lt::ts,b,off,h=>by
   unfold am at h
   obtain⟨b',off',e,_,_,hb,hT,hS⟩:=h
   injection e with e
   injection e with e1 e2
   subst e1 e2
   unfold bY at hT
   obtain⟨hs,a,l,c,c0,c1,c2,c3,hlc,hLt⟩:=hT
   obtain⟨cs,q1,q2,q3,q4⟩:=fC ts b (off+4) hS
   refine⟨[F C k,F C n,H s,A a l c]++cs,by simp[q1];omega,fun j u hu=>?_,fun u hu=>?_,fun j k' n' s' Lt' hj=>?_⟩
   ·match j,hu with
    | 0,hu=>simp at hu;subst hu;exact c0
    | 1,hu=>simp at hu;subst hu;exact c1
    | 2,hu=>simp at hu;subst hu;exact c2
    | 3,hu=>simp at hu;subst hu;exact c3
    | j+4,hu=>
      have hu':cs[j]? = some u:=by simpa using hu
      have:=q2 j u hu'
      rw[show off+4+j=off+(j+4) from by omega] at this
      exact this
   ·rcases List.mem_append.1 hu with hu | hu
    ·simp at hu
     rcases hu with rfl | rfl | rfl | rfl<;>rfl
    ·exact q3 u hu
   ·cases j with
    | zero=>
      simp at hj
      obtain⟨rfl,rfl,rfl,rfl⟩:=hj
      exact⟨hs,rfl,rfl,rfl,a,l,c,rfl,hlc,hLt⟩
    | succ j=>
      have hj':ts[j]? = some (.node k' n' s' Lt'):=by simpa using hj
      obtain⟨a0,a1,a2,a3,a',l',c',a4,a5⟩:=q4 j k' n' s' Lt' hj'
      have sh:∀o,([F C k,F C n,H s,A a l c]++cs)[(j+1)*4+o]? = cs[j*4+o]?:=fun o=>by
       rw[List.getElem?_append_right (by simp;omega)]
       congr 1
       simp
       omega
      exact⟨a0,(sh 0).trans a1,(sh 1).trans a2,(sh 2).trans a3,a',l',c',(sh 3).trans a4,a5⟩
theorem ft {W w:World} {B g cap m:Nat} {cs:List Value} {L:List T} (h:w.ownsRow B 30 4 (A (some ⟨g,0,none⟩) m cap) m cs)
 (hc:∀(j:Nat) (k n:Int) (s:ByteArray) (Lt:List T),L[j]? = some (.node k n s Lt)→s.size≤9223372036854775807∧cs[j*4]? = some (F C k)∧cs[j*4+1]? = some (F C n)∧cs[j*4+2]? = some (H s)∧∃a l c,cs[j*4+3]? = some (A a l c)∧l≤c∧am W Lt a l):Mix W w g L 0 []∧m≤cap:=by
 rcases h.2 with⟨e,_⟩ | ⟨g',cap',cur,e,h1,h2,h3,h4,h5,h6⟩
 ·cases e
 ·simp only[Value.slice.injEq,Option.some.injEq,Addr.mk.injEq,and_true,true_and] at e
  obtain⟨rfl,rfl⟩:=e
  refine⟨⟨cur,h2,fun j k n s Lt hj=>?_⟩,h3⟩
  obtain⟨a0,a1,a2,a3,a,l,c,a4,a5⟩:=hc j k n s Lt hj
  have q:∀o u,cs[o]? = some u→cur[o]? = some u:=fun o u hu=>by
   rw[←h6,List.getElem?_take] at hu
   split at hu
   ·simpa using hu
   ·cases hu
  exact⟨a0,q _ _ a1,q _ _ a2,q _ _ a3,_,q _ _ a4,fun h=>absurd h (Nat.not_lt_zero _),fun _=>⟨a,l,c,rfl,a5⟩⟩
theorem iT {w:World} {b:Nat} {cu:Array Value} {t:TypeId} (h:w.heap[b]? = some (G cu t (0,0))) (j:Nat) (v:Value):∃cu':Array Value,(w.setCell ⟨b,j,none⟩ v).heap[b]? = some (G cu' t (0,0))∧cu'.size=cu.size∧(∀x,x≠j→cu'[x]? = cu[x]?)∧(j<cu.size→cu'[j]? = some v):=by
 refine⟨cu.set! j v,by simp[M,Array.getElem?_modify,h],by simp,fun x hx=>?_,fun hj=>?_⟩
 ·simp[Ne.symm hx]
 ·simp[hj]
end Go.Proofs.YtijjpoohhgapoaaGreatDoor

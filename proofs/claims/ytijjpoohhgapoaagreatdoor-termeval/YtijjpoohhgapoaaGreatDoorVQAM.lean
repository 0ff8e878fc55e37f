import Derived.Test.YtijjpoohhgapoaaGreatDoorVQAL
import Derived.Test.YtijjpoohhgapoaaGreatDoorShelfT
import Derived.Test.YtijjpoohhgapoaaGreatDoorVQAF
namespace Go.Proofs.YtijjpoohhgapoaaGreatDoor
open Go.RowKit
set_option linter.unusedVariables false
set_option maxHeartbeats 8000000
set_option maxRecDepth 100000
open Value renaming slice → A, int → C, string → D, agg → J, tuple → Q
open IntKind renaming i64 → B
open Obj renaming cells → F
open Ending renaming returned → G
open RowKit.Below renaming heap_alloc → H, refl → M, heap_setCell → O
open Nat renaming le_refl → I, lt_irrefl → S
open List renaming dropWhile_cons → K
def bP (P:List Pr) (name:ByteArray):Option Pr:=P.find? (fun p=>p.name.toList==name.toList)
def zvV:Value:=J #[C B 0,C B 0,D ⟨#[]⟩,A none 0 0]
def wH (w':World) (er:Int) (N:List Nd) (E:List Ed) (id:Int) (name:ByteArray) (tr:Pr→List T) (e:Ending):Prop:=
 (er≠0∧e=G (Q #[zvV,C B er]))∨(er=0∧dE N id=false∧id ∉ E.map Ed.id∧e=G (Q #[zvV,C B 5])) ∨
 (er=0∧∃P pa pl pc,sU N E id P pa pl pc∧((bP P name=none∧e=G (Q #[zvV,C B 0]))∨∃p a' c',bP P name=some p∧p ∈ P∧e=G (Q #[J #[C B p.k,C B p.n,D p.s,A a' p.l c'],C B 0])∧p.l≤c'∧am w' (tr p) a' p.l))
def vy (P:List Pr) (name:ByteArray) (e:Ending):Prop:=(bP P name=none∧e=G zvV)∨∃p,bP P name=some p∧p ∈ P∧e=G (J #[C B p.k,C B p.n,D p.s,A p.a p.l p.c])
theorem mf (P:List Pr) (pa:Option Addr) (pl pc:Nat) (name:ByteArray) (w:World) (h:aX w P pa pl) :
 Calls Tryz.prog 58 #[A pa pl pc,D name] w fun e w'=>vy P name e∧Below w.heap.size w w':=by
 obtain⟨hl,hmx,hat⟩:=h
 have HPL:=aa hl
 have HAT:=aa hat
 clear hl hat
 have b0:Below w.heap.size w (w.alloc (F #[C B 0,C B 0,D ⟨#[]⟩,A none 0 0] 30)):=(M _ _).alloc (I _) _
 have z0:(w.alloc (F #[C B 0,C B 0,D ⟨#[]⟩,A none 0 0] 30)).heap.size=w.heap.size+1:=by simp
 have hy:=ae w (F #[C B 0,C B 0,D ⟨#[]⟩,A none 0 0] 30)
 have HY:Hid (∀W,Below (w.heap.size+1) (w.alloc (F #[C B 0,C B 0,D ⟨#[]⟩,A none 0 0] 30)) W→W.heap[w.heap.size]? = some (F #[C B 0,C B 0,D ⟨#[]⟩,A none 0 0] 30 (0,0))):=fun W k=>(k.block _ (by omega)).trans hy
 have B0:=aa b0
 have Z0:=aa z0
 clear hy b0 z0
 have HQ:Hid (bP P name=bP (P.drop 0) name):=rfl
 go_enter Tryz.func58,Tryz.ntmps58
 go_wp2_with fail
 go_loopg [9] pl (fun g s9 wr=>∃i:Nat,i≤pl∧pl-i≤g∧s9=C B i∧Below (w.heap.size+1) (w.alloc (F #[C B 0,C B 0,D ⟨#[]⟩,A none 0 0] 30)) wr∧bP P name=bP (P.drop i) name)
 case atStart=>exact⟨0,Nat.zero_le _,by omega,rfl,M _ _,HQ.out⟩
 case round=>
  clear HQ
  obtain⟨i,hi,hg,rfl,hbw,hfe⟩:=hrel
  have HQ:=aa hfe
  clear hfe
  have hz:w.heap.size+1≤wr.heap.size:=by have:=hbw.size;rw[Z0.out] at this;exact this
  have hw0:Below w.heap.size w wr:=B0.out.trans (hbw.mono (by omega))
  have hlx:w.heap.size<wr.heap.size:=by omega
  by_cases hlt:i<pl
  ·obtain⟨b,off,ha,hb,hc⟩:=HAT.out (by omega)
   subst ha
   obtain⟨p,hp,hd⟩:=aF (L:=P) (i:=i) (by have:=HPL.out;omega)
   obtain⟨hsz,c0,c1,c2,c3,c4⟩:=hc i p hp
   have q:∀o,wr.cell? ⟨b,o,none⟩=w.cell? ⟨b,o,none⟩:=fun o=>hw0.cell (p:=⟨b,o,none⟩) hb
   have d0:=(q _).trans c0
   have d1:=(q _).trans c1
   have d2:=(q _).trans c2
   have d3:=(q _).trans c3
   have d4:=(q _).trans c4
   have HD:=aa hd
   have HPM:=aa (List.mem_of_getElem? hp)
   clear hc hd hp c0 c1 c2 c3 c4 q
   have HBX:=aa (hbw.alloc hz (F #[D p.name,C B p.k,C B p.n,D p.s,A p.a p.l p.c] 90))
   have BX:=aa (hw0.alloc hw0.size (F #[D p.name,C B p.k,C B p.n,D p.s,A p.a p.l p.c] 90))
   cases hnm:(p.name.toList==name.toList) with
   | true=>
     have HFP:=aa (show bP P name=some p by rw[HQ.out,HD.out,bP,List.find?_cons_of_pos (by simpa using hnm)])
     have HRX:=aa (HY.out wr hbw)
     clear HQ HD
     obtain⟨r0,r1,r2,r3⟩:=ai HRX.out
     simp at r0 r1 r2 r3
     obtain⟨g0,g1,g2,g3⟩:=aq HRX.out
     have HE:=aa ((H (bC wr w.heap.size (C B p.k) (C B p.n) (D p.s) (A p.a p.l p.c)) (F #[D p.name,C B p.k,C B p.n,D p.s,A p.a p.l p.c] 90) w.heap.size (by rw[fd];exact hlx)).trans (aQ HRX.out (C B p.k) (C B p.n) (D p.s) (A p.a p.l p.c)))
     have HBB:=aa ((hw0.trans (fe wr w.heap.size (C B p.k) (C B p.n) (D p.s) (A p.a p.l p.c))).alloc (by rw[fd];exact hw0.size) (F #[D p.name,C B p.k,C B p.n,D p.s,A p.a p.l p.c] 90))
     clear HRX
     go_wp2_with fail
     have eP:∀X:World,(((X.setCell ⟨w.heap.size,0,none⟩ (C B p.k)).setCell ⟨w.heap.size,1,none⟩ (C B p.n)).setCell ⟨w.heap.size,2,none⟩ (D p.s)).setCell ⟨w.heap.size,3,none⟩ (A p.a p.l p.c)=bC X w.heap.size (C B p.k) (C B p.n) (D p.s) (A p.a p.l p.c):=fun _=>rfl
     rw[eP]
     have E:=HE.out
     have hbb:=HBB.out
     clear HE HBB
     generalize (bC wr w.heap.size (C B p.k) (C B p.n) (D p.s) (A p.a p.l p.c)).alloc (F #[D p.name,C B p.k,C B p.n,D p.s,A p.a p.l p.c] 90)=Y at E hbb ⊢
     obtain⟨t0,t1,t2,t3⟩:=ai E
     simp at t0 t1 t2 t3
     exact bodyPost_ret (v:=J #[(C B p.k),(C B p.n),(D p.s),(A p.a p.l p.c)]) (by simp[results,Tryz.results58,go_sem,t0,t1,t2,t3]) rfl ⟨.inr ⟨p,HFP.out,HPM.out,rfl⟩,hbb⟩
   | false=>
     have HQ2:=aa (show bP P name=bP (P.drop (i+1)) name by rw[HQ.out,HD.out,bP,List.find?_cons_of_neg (by simpa using hnm)];rfl)
     clear HQ HD
     go_wp2_with fail
     go_roundg (pl-(i+1))
     case measure=>omega
     case rel=>exact⟨i+1,by omega,by omega,by go_num,HBX.out,HQ2.out⟩
  ·have HFP:=aa (show bP P name=none by rw[HQ.out,List.drop_eq_nil_of_le (by have:=HPL.out;omega)];rfl)
   have HRX:=aa (HY.out wr hbw)
   have BX:=aa hw0
   clear HQ hw0 hbw
   obtain⟨r0,r1,r2,r3⟩:=ai HRX.out
   simp at r0 r1 r2 r3
   obtain⟨g0,g1,g2,g3⟩:=aq HRX.out
   have HE:=aa (aQ HRX.out (C B 0) (C B 0) (D ⟨#[]⟩) (A none 0 0))
   have HBB:=aa (BX.out.trans (fe wr w.heap.size (C B 0) (C B 0) (D ⟨#[]⟩) (A none 0 0)))
   clear HRX
   go_wp2_with fail
   have eP:∀X:World,(((X.setCell ⟨w.heap.size,0,none⟩ (C B 0)).setCell ⟨w.heap.size,1,none⟩ (C B 0)).setCell ⟨w.heap.size,2,none⟩ (D ⟨#[]⟩)).setCell ⟨w.heap.size,3,none⟩ (A none 0 0)=bC X w.heap.size (C B 0) (C B 0) (D ⟨#[]⟩) (A none 0 0):=fun _=>rfl
   rw[eP]
   have E:=HE.out
   have hbb:=HBB.out
   clear HE HBB
   generalize bC wr w.heap.size (C B 0) (C B 0) (D ⟨#[]⟩) (A none 0 0)=Y at E hbb ⊢
   obtain⟨t0,t1,t2,t3⟩:=ai E
   simp at t0 t1 t2 t3
   exact bodyPost_ret (v:=J #[(C B 0),(C B 0),(D ⟨#[]⟩),(A none 0 0)]) (by simp[results,Tryz.results58,go_sem,t0,t1,t2,t3]) rfl ⟨.inl ⟨HFP.out,rfl⟩,hbb⟩
theorem uX (w:World):Calls Tryz.prog 17 #[J #[C B 0,C B 0,D ⟨#[]⟩,A none 0 0]] w fun e w'=>e=G zvV∧Below w.heap.size w w':=by
 have HV:Hid (∀W,Calls Tryz.prog 57 #[A none 0 0] W fun e w'=>e=G (A none 0 0)∧Below W.heap.size W w'):=fun W=>fT none 0 W
 have b0:Below w.heap.size w ((w.alloc (F #[C B 0,C B 0,D ⟨#[]⟩,A none 0 0] 30)).alloc (F #[C B 0,C B 0,D ⟨#[]⟩,A none 0 0] 30)):=((M _ _).alloc (I _) _).alloc (by simp) _
 have hx:=(H (w.alloc (F #[C B 0,C B 0,D ⟨#[]⟩,A none 0 0] 30)) (F #[C B 0,C B 0,D ⟨#[]⟩,A none 0 0] 30) w.heap.size (by simp)).trans (ae w (F #[C B 0,C B 0,D ⟨#[]⟩,A none 0 0] 30))
 have hy:=ay w (F #[C B 0,C B 0,D ⟨#[]⟩,A none 0 0] 30) (F #[C B 0,C B 0,D ⟨#[]⟩,A none 0 0] 30)
 have z0:((w.alloc (F #[C B 0,C B 0,D ⟨#[]⟩,A none 0 0] 30)).alloc (F #[C B 0,C B 0,D ⟨#[]⟩,A none 0 0] 30)).heap.size=w.heap.size+2:=by simp
 have HB:=aa b0
 have HX:=aa hx
 have HY:=aa hy
 have HZ:=aa z0
 clear b0 hx hy z0
 go_enter Tryz.func17,Tryz.ntmps17
 go_wp2_with fail
 refine(HV.out _).mono ?_
 generalize (w.alloc (F #[C B 0,C B 0,D ⟨#[]⟩,A none 0 0] 30)).alloc (F #[C B 0,C B 0,D ⟨#[]⟩,A none 0 0] 30)=W at HB HX HY HZ ⊢
 rintro e w1 ⟨rfl,k1⟩
 have s1:w.heap.size+2≤w1.heap.size:=by have:=k1.size;rw[HZ.out] at this;exact this
 have c1:=HB.out.trans (k1.mono HB.out.size)
 have hv1:=(k1.block w.heap.size (by rw[HZ.out];omega)).trans HX.out
 have hr1:=(k1.block (w.heap.size+1) (by rw[HZ.out];omega)).trans HY.out
 have hv2:=kS hv1 (A none 0 0)
 have hr2:=(O w1 ⟨w.heap.size,3,none⟩ (A none 0 0) (w.heap.size+1) (by show w.heap.size+1≠w.heap.size;omega)).trans hr1
 have c2:Below w.heap.size w (w1.setCell ⟨w.heap.size,3,none⟩ (A none 0 0)):=c1.setCell (p:=⟨w.heap.size,3,none⟩) (I _) _
 have s2:(w1.setCell ⟨w.heap.size,3,none⟩ (A none 0 0)).heap.size=w1.heap.size:=by simp[World.setCell]
 have x3:=ac hv1 3
 have f3:=aj hv1 3
 simp at x3
 have hl1:w.heap.size<w1.heap.size:=by omega
 have HV2:=aa hv2
 have HR2:=aa hr2
 have HC2:=aa c2
 have HS2:=aa s2
 clear hv1 hr1 hv2 hr2 c2 s2 k1 c1
 obtain⟨X,hX⟩:∃X,X=w1.setCell ⟨w.heap.size,3,none⟩ (A none 0 0):=⟨_,rfl⟩
 rw[←hX] at HV2 HR2 HC2 HS2
 obtain⟨q0,q1,q2,q3⟩:=ai HV2.out
 simp at q0 q1 q2 q3
 obtain⟨r0,r1,r2,r3⟩:=ai HR2.out
 simp at r0 r1 r2 r3
 obtain⟨g0,g1,g2,g3⟩:=aq HR2.out
 have hXs:w1.setCell ⟨w.heap.size,3,none⟩ (A none 0 0)=X:=hX.symm
 have HE:=aa (aQ HR2.out (C B 0) (C B 0) (D ⟨#[]⟩) (A none 0 0))
 have HBB:=aa (HC2.out.trans ((fe X (w.heap.size+1) (C B 0) (C B 0) (D ⟨#[]⟩) (A none 0 0)).mono (by omega)))
 clear hX HV2 HR2 HC2 HS2
 go_wp2_with fail
 have eP:∀X:World,(((X.setCell ⟨w.heap.size+1,0,none⟩ (C B 0)).setCell ⟨w.heap.size+1,1,none⟩ (C B 0)).setCell ⟨w.heap.size+1,2,none⟩ (D ⟨#[]⟩)).setCell ⟨w.heap.size+1,3,none⟩ (A none 0 0)=bC X (w.heap.size+1) (C B 0) (C B 0) (D ⟨#[]⟩) (A none 0 0):=fun _=>rfl
 rw[eP]
 have E:=HE.out
 have hbb:=HBB.out
 clear HE HBB
 generalize bC X (w.heap.size+1) (C B 0) (C B 0) (D ⟨#[]⟩) (A none 0 0)=Y at E hbb ⊢
 obtain⟨t0,t1,t2,t3⟩:=ai E
 simp at t0 t1 t2 t3
 exact bodyPost_ret (v:=zvV) (by simp[zvV,results,Tryz.results17,go_sem,t0,t1,t2,t3]) rfl ⟨rfl,hbb⟩
def bZ (w:World) (lb pb nb eb:Nat):Prop:=
 w.heap[lb]? = some (F #[D ⟨#[65]⟩] 9 (0,0))∧w.heap[pb]? = some (F #[D ⟨#[110]⟩,C B 2,C B 5,D ⟨#[]⟩,A none 0 0] 90 (0,0)) ∧
 w.heap[nb]? = some (F #[C B 1,A (some ⟨lb,0,none⟩) 1 1,A (some ⟨pb,0,none⟩) 1 1,C B 2,A none 0 0,A none 0 0] 61 (0,0)) ∧
 w.heap[eb]? = some (F #[C B 3,C B 1,C B 2,D ⟨#[75]⟩,A none 0 0] 65 (0,0))
def sZ (w':World) (e:Ending):Prop:=∃lb pb nb eb,e=G (J #[A (some ⟨nb,0,none⟩) 2 2,A (some ⟨eb,0,none⟩) 1 1,C B 4])∧bZ w' lb pb nb eb
theorem ja (w:World):Calls Tryz.prog 25 #[] w fun e w'=>sZ w' e∧Below w.heap.size w w':=by
 go_enter Tryz.func25,Tryz.ntmps25
 go_wp2_with fail
 refine(p9 _ _).mono ?_
 rintro e w1 ⟨rfl,k1⟩
 have s1:w.heap.size+2≤w1.heap.size:=by have:=k1.size;simpa using this
 have hv1:=(k1.block w.heap.size (by simp<;>omega)).trans ((H _ _ w.heap.size (by simp<;>omega)).trans (ae w _))
 have hl1:=(k1.block (w.heap.size+1) (by simp<;>omega)).trans (ay w _ _)
 have c1:Below w.heap.size w w1:=(((M w.heap.size w).alloc (I _) _).alloc (by simp<;>omega) _).trans (k1.mono (by simp<;>omega))
 have z4:(((w1.alloc (F #[D ⟨#[110]⟩,C B 2,C B 5,D ⟨#[]⟩,A none 0 0] 90)).alloc (F #[C B 1,A (some ⟨w.heap.size+1,0,none⟩) 1 1,A (some ⟨w1.heap.size,0,none⟩) 1 1,C B 2,A none 0 0,A none 0 0] 61)).alloc (F #[C B 3,C B 1,C B 2,D ⟨#[75]⟩,A none 0 0] 65)).heap.size=w1.heap.size+3:=by simp
 have e4:=ae ((w1.alloc (F #[D ⟨#[110]⟩,C B 2,C B 5,D ⟨#[]⟩,A none 0 0] 90)).alloc (F #[C B 1,A (some ⟨w.heap.size+1,0,none⟩) 1 1,A (some ⟨w1.heap.size,0,none⟩) 1 1,C B 2,A none 0 0,A none 0 0] 61)) (F #[C B 3,C B 1,C B 2,D ⟨#[75]⟩,A none 0 0] 65)
 have z3:((w1.alloc (F #[D ⟨#[110]⟩,C B 2,C B 5,D ⟨#[]⟩,A none 0 0] 90)).alloc (F #[C B 1,A (some ⟨w.heap.size+1,0,none⟩) 1 1,A (some ⟨w1.heap.size,0,none⟩) 1 1,C B 2,A none 0 0,A none 0 0] 61)).heap.size=w1.heap.size+2:=by simp
 rw[z3] at e4
 have n4:=(H ((w1.alloc (F #[D ⟨#[110]⟩,C B 2,C B 5,D ⟨#[]⟩,A none 0 0] 90)).alloc (F #[C B 1,A (some ⟨w.heap.size+1,0,none⟩) 1 1,A (some ⟨w1.heap.size,0,none⟩) 1 1,C B 2,A none 0 0,A none 0 0] 61)) (F #[C B 3,C B 1,C B 2,D ⟨#[75]⟩,A none 0 0] 65) (w1.heap.size+1) (by simp<;>omega)).trans (ay w1 (F #[D ⟨#[110]⟩,C B 2,C B 5,D ⟨#[]⟩,A none 0 0] 90) (F #[C B 1,A (some ⟨w.heap.size+1,0,none⟩) 1 1,A (some ⟨w1.heap.size,0,none⟩) 1 1,C B 2,A none 0 0,A none 0 0] 61))
 have q4:∀j,j<w1.heap.size→(((w1.alloc (F #[D ⟨#[110]⟩,C B 2,C B 5,D ⟨#[]⟩,A none 0 0] 90)).alloc (F #[C B 1,A (some ⟨w.heap.size+1,0,none⟩) 1 1,A (some ⟨w1.heap.size,0,none⟩) 1 1,C B 2,A none 0 0,A none 0 0] 61)).alloc (F #[C B 3,C B 1,C B 2,D ⟨#[75]⟩,A none 0 0] 65)).heap[j]? = w1.heap[j]?:=fun j hj=>(H _ _ j (by simp<;>omega)).trans ((H _ _ j (by simp<;>omega)).trans (H _ _ j hj))
 have p4:=(H ((w1.alloc (F #[D ⟨#[110]⟩,C B 2,C B 5,D ⟨#[]⟩,A none 0 0] 90)).alloc (F #[C B 1,A (some ⟨w.heap.size+1,0,none⟩) 1 1,A (some ⟨w1.heap.size,0,none⟩) 1 1,C B 2,A none 0 0,A none 0 0] 61)) (F #[C B 3,C B 1,C B 2,D ⟨#[75]⟩,A none 0 0] 65) w1.heap.size (by simp<;>omega)).trans ((H (w1.alloc (F #[D ⟨#[110]⟩,C B 2,C B 5,D ⟨#[]⟩,A none 0 0] 90)) (F #[C B 1,A (some ⟨w.heap.size+1,0,none⟩) 1 1,A (some ⟨w1.heap.size,0,none⟩) 1 1,C B 2,A none 0 0,A none 0 0] 61) w1.heap.size (by simp<;>omega)).trans (ae w1 (F #[D ⟨#[110]⟩,C B 2,C B 5,D ⟨#[]⟩,A none 0 0] 90)))
 have v4:=(q4 w.heap.size (by omega)).trans hv1
 have l4:=(q4 (w.heap.size+1) (by omega)).trans hl1
 have c4:Below w.heap.size w (((w1.alloc (F #[D ⟨#[110]⟩,C B 2,C B 5,D ⟨#[]⟩,A none 0 0] 90)).alloc (F #[C B 1,A (some ⟨w.heap.size+1,0,none⟩) 1 1,A (some ⟨w1.heap.size,0,none⟩) 1 1,C B 2,A none 0 0,A none 0 0] 61)).alloc (F #[C B 3,C B 1,C B 2,D ⟨#[75]⟩,A none 0 0] 65)):=((c1.alloc c1.size _).alloc (by simp<;>omega) _).alloc (by simp<;>omega) _
 have hlt:w.heap.size<w1.heap.size:=by omega
 obtain⟨r0,r1,r2⟩:=cj v4
 obtain⟨g0,g1,g2⟩:=uY v4
 have V4:=aa v4
 have L4:=aa l4
 have P4:=aa p4
 have N4:=aa n4
 have E4:=aa e4
 have C4:=aa c4
 clear hv1 hl1 q4 v4 l4 p4 n4 e4 c4 z3 z4 k1 c1
 simp at r0 r1 r2
 go_wp2_with fail
 generalize (((w1.alloc (F #[D ⟨#[110]⟩,C B 2,C B 5,D ⟨#[]⟩,A none 0 0] 90)).alloc (F #[C B 1,A (some ⟨w.heap.size+1,0,none⟩) 1 1,A (some ⟨w1.heap.size,0,none⟩) 1 1,C B 2,A none 0 0,A none 0 0] 61)).alloc (F #[C B 3,C B 1,C B 2,D ⟨#[75]⟩,A none 0 0] 65))=X at V4 L4 P4 N4 E4 C4 ⊢
 have hsz:w.heap.size<X.heap.size:=(Array.getElem?_eq_some_iff.1 V4.out).1
 have o:∀i,i≠w.heap.size→(((X.setCell ⟨w.heap.size,0,none⟩ (A (some ⟨w1.heap.size+1,0,none⟩) 2 2)).setCell ⟨w.heap.size,1,none⟩ (A (some ⟨w1.heap.size+2,0,none⟩) 1 1)).setCell ⟨w.heap.size,2,none⟩ (C B 4)).heap[i]? = X.heap[i]?:=fun i hi=>(O _ _ _ i hi).trans ((O _ _ _ i hi).trans (O _ _ _ i hi))
 have h:(((X.setCell ⟨w.heap.size,0,none⟩ (A (some ⟨w1.heap.size+1,0,none⟩) 2 2)).setCell ⟨w.heap.size,1,none⟩ (A (some ⟨w1.heap.size+2,0,none⟩) 1 1)).setCell ⟨w.heap.size,2,none⟩ (C B 4)).heap[w.heap.size]? = some (F #[A (some ⟨w1.heap.size+1,0,none⟩) 2 2,A (some ⟨w1.heap.size+2,0,none⟩) 1 1,C B 4] 25 (0,0)):=by
  simp[World.setCell,Array.getElem?_modify,V4.out]
 have hbb:Below w.heap.size w (((X.setCell ⟨w.heap.size,0,none⟩ (A (some ⟨w1.heap.size+1,0,none⟩) 2 2)).setCell ⟨w.heap.size,1,none⟩ (A (some ⟨w1.heap.size+2,0,none⟩) 1 1)).setCell ⟨w.heap.size,2,none⟩ (C B 4)):=((C4.out.setCell (p:=⟨w.heap.size,0,none⟩) (I _) _).setCell (p:=⟨w.heap.size,1,none⟩) (I _) _).setCell (p:=⟨w.heap.size,2,none⟩) (I _) _
 generalize ((X.setCell ⟨w.heap.size,0,none⟩ (A (some ⟨w1.heap.size+1,0,none⟩) 2 2)).setCell ⟨w.heap.size,1,none⟩ (A (some ⟨w1.heap.size+2,0,none⟩) 1 1)).setCell ⟨w.heap.size,2,none⟩ (C B 4)=Y at o h hbb ⊢
 obtain⟨t0,t1,t2⟩:=cj h
 simp at t0 t1 t2
 exact bodyPost_ret (v:=J #[A (some ⟨w1.heap.size+1,0,none⟩) 2 2,A (some ⟨w1.heap.size+2,0,none⟩) 1 1,C B 4]) (by simp[results,Tryz.results25,go_sem,t0,t1,t2]) rfl ⟨⟨w.heap.size+1,w1.heap.size,w1.heap.size+1,w1.heap.size+2,rfl,(o _ (by omega)).trans L4.out,(o _ (by omega)).trans P4.out,(o _ (by omega)).trans N4.out,(o _ (by omega)).trans E4.out⟩,hbb⟩
def prK:Pr:=⟨⟨#[110]⟩,2,5,⟨#[]⟩,none,0,0,0⟩
def et (lb pb:Nat):List Nd:=[⟨1,[⟨#[65]⟩],some ⟨lb,0,none⟩,1,1,[prK],some ⟨pb,0,none⟩,1,1⟩,⟨2,[],none,0,0,[],none,0,0⟩]
def fO:List Ed:=[⟨3,1,2,⟨#[75]⟩,[],none,0,0⟩]
theorem de {w:World} {b:Nat} {o:Obj} (h:w.heap[b]? = some o):b<w.heap.size:=(Array.getElem?_eq_some_iff.1 h).1
theorem bZ.below {w w':World} {lb pb nb eb:Nat} (h:bZ w lb pb nb eb) (k:Below w.heap.size w w'):bZ w' lb pb nb eb:=by
 obtain⟨h1,h2,h3,h4⟩:=h
 exact⟨(k.block _ (de h1)).trans h1,(k.block _ (de h2)).trans h2,(k.block _ (de h3)).trans h3,(k.block _ (de h4)).trans h4⟩
theorem lw (w:World) (a:Option Addr):cD w [] a 0:=⟨rfl,by omega,fun h=>absurd h (S _)⟩
theorem oZ (w:World) (a:Option Addr):aX w [] a 0:=⟨rfl,by omega,fun h=>absurd h (S _)⟩
theorem bZ.strs {w:World} {lb pb nb eb:Nat} (h:bZ w lb pb nb eb):cD w [⟨#[65]⟩] (some ⟨lb,0,none⟩) 1:=by
 refine⟨rfl,by omega,fun _=>⟨lb,0,rfl,de h.1,fun i s hs=>?_⟩⟩
 cases i with
 | zero=>
   simp at hs
   subst hs
   exact⟨by decide,ac h.1 0⟩
 | succ i=>simp at hs
theorem bZ.props {w:World} {lb pb nb eb:Nat} (h:bZ w lb pb nb eb):aX w [prK] (some ⟨pb,0,none⟩) 1:=by
 refine⟨rfl,by omega,fun _=>⟨pb,0,rfl,de h.2.1,fun i s hs=>?_⟩⟩
 cases i with
 | zero=>
   simp at hs
   subst hs
   exact⟨by decide,ac h.2.1 0,ac h.2.1 1,ac h.2.1 2,ac h.2.1 3,ac h.2.1 4⟩
 | succ i=>simp at hs
theorem bZ.nodes {w:World} {lb pb nb eb:Nat} (h:bZ w lb pb nb eb):bF w (et lb pb) (some ⟨nb,0,none⟩) 2:=by
 refine⟨rfl,by omega,fun _=>⟨nb,0,rfl,de h.2.2.1,fun i s hs=>?_⟩⟩
 match i,hs with
 | 0,hs=>
   simp[et] at hs
   subst hs
   exact⟨ac h.2.2.1 0,ac h.2.2.1 1,ac h.2.2.1 2⟩
 | 1,hs=>
   simp[et] at hs
   subst hs
   exact⟨ac h.2.2.1 3,ac h.2.2.1 4,ac h.2.2.1 5⟩
 | i+2,hs=>simp[et] at hs
theorem bZ.edges {w:World} {lb pb nb eb:Nat} (h:bZ w lb pb nb eb):bO w fO (some ⟨eb,0,none⟩) 1:=by
 refine⟨rfl,by omega,fun _=>⟨eb,0,rfl,de h.2.2.2,fun i s hs=>?_⟩⟩
 cases i with
 | zero=>
   simp[fO] at hs
   subst hs
   exact⟨by decide,ac h.2.2.2 0,ac h.2.2.2 1,ac h.2.2.2 2,ac h.2.2.2 3,ac h.2.2.2 4⟩
 | succ i=>simp[fO] at hs
theorem qe (s t:ByteArray):leS s t=(Op.bytesLess s.data.toList t.data.toList||s.data.toList==t.data.toList):=by
 unfold leS
 rw[ByteArray.toList_eq,ByteArray.toList_eq]
theorem sw:b6 [⟨#[65]⟩]=0:=by
 have h1:nm ⟨#[65]⟩=true:=by decide
 have h2:leS ⟨#[65]⟩ ⟨#[]⟩=false:=by rw[qe];decide
 simp[b6,fx,h1,h2]
theorem ug:bJ [prK]=0:=by
 have h1:nm prK.name=true:=by decide
 have h2:leS prK.name ⟨#[]⟩=false:=by rw[qe];decide
 have h3:prK.k≠0:=by decide
 have h4:prK.e=0:=rfl
 simp[bJ,prE,h1,h2,h3,h4]
theorem we (lb pb:Nat):gE (et lb pb) fO 4=0:=by
 have a1:=sw
 have a2:=ug
 have a3:b6 []=0:=by simp[b6,fx]
 have a4:bJ []=0:=by simp[bJ,prE]
 have a5:nm ⟨#[75]⟩=true:=by decide
 have n1:ndE 0 (et lb pb)=0:=by simp[ndE,dc,et,a1,a2,a3,a4]
 have e1:edE (et lb pb) 0 fO=0:=by simp[edE,cl,fO,dE,et,a4,a5]
 have l1:bU 0 ((et lb pb).map Nd.id)=2:=rfl
 have l2:bU 0 (fO.map Ed.id)=3:=rfl
 rw[gE,n1,e1,l1,l2]
 simp[et,fO]
theorem vT (w:World):Calls Tryz.prog 83 #[prK.val] w fun e w'=>e=G (C B prK.e)∧Below w.heap.size w w':=
 oz 2 5 ⟨#[]⟩ none 0 0 0 w fun w' k=>eq 2 5 ⟨#[]⟩ none 0 0 0 0 w' rfl rfl fun w2 k2=>dK 2 5 ⟨#[]⟩ none 0 0 0 w2 (fun _ _ _=>rfl) (fun h=>absurd (.inr (.inr rfl)) h) (fun h=>absurd rfl h) (fun h=>absurd rfl h) (by omega)
theorem tw {w:World} {lb pb nb eb:Nat} (h:bZ w lb pb nb eb) (w':World) (k:Below w.heap.size w w') (c:Nat):Calls Tryz.prog 72 #[A (some ⟨pb,0,none⟩) 1 c] w' fun e w''=>e=G (C B (bJ [prK]))∧Below w'.heap.size w' w'':=
 j1 dv [prK] _ 1 c w' (h.props.below k) fun p hp w2 k2=>by
  obtain rfl:=List.mem_singleton.1 hp
  exact vT w2
theorem p8 (w':World) (a:Option Addr) (c:Nat):Calls Tryz.prog 72 #[A a 0 c] w' fun e w''=>e=G (C B (bJ []))∧Below w'.heap.size w' w'':=
 j1 dv [] _ 0 c w' (oZ _ _) fun p hp=>by cases hp
theorem qt {w:World} {lb pb nb eb:Nat} (h:bZ w lb pb nb eb):Calls Tryz.prog 13 #[J #[A (some ⟨nb,0,none⟩) 2 2,A (some ⟨eb,0,none⟩) 1 1,C B 4]] w fun e w'=>e=G (C B 0)∧Below w.heap.size w w':=by
 have:=ju (et lb pb) fO (some ⟨nb,0,none⟩) 2 2 (some ⟨eb,0,none⟩) 1 1 4 w h.nodes h.edges (fun x hx w' k=>by
  rcases List.mem_cons.1 hx with rfl | hx
  ·exact⟨i9 dv _ _ _ _ w' (h.strs.below k),tw h w' k 1⟩
  ·obtain rfl:=List.mem_singleton.1 hx
   exact⟨i9 dv _ _ _ _ w' (lw _ _),p8 w' none 0⟩) (fun x hx w' k=>by
  obtain rfl:=List.mem_singleton.1 hx
  exact p8 w' none 0)
 rw[we] at this
 exact this
theorem rU (lb pb:Nat):ez ((et lb pb).map Nd.id):=by
 have h:=we lb pb
 have n1:ndE 0 (et lb pb)=0:=by
  have a1:=sw
  have a2:=ug
  have a3:b6 []=0:=by simp[b6,fx]
  have a4:bJ []=0:=by simp[bJ,prE]
  simp[ndE,dc,et,a1,a2,a3,a4]
 exact(j6 _ _ n1).1
theorem rV:ez (fO.map Ed.id):=by
 intro i j x y hij hx hy
 have h1:j<1:=(List.getElem?_eq_some_iff.1 hy).1
 omega
theorem wB {lb pb:Nat} {P:List Pr} {pa:Option Addr} {pl pc:Nat} (h:sU (et lb pb) fO 1 P pa pl pc):P = [prK]∧pa=some ⟨pb,0,none⟩∧pl=1∧pc=1:=by
 rcases h with⟨x,hx,h1,h2,h3,h4,h5⟩ | ⟨h1,_⟩
 ·rcases List.mem_cons.1 hx with rfl | hx
  ·exact⟨h2.symm,h3.symm,h4.symm,h5.symm⟩
  ·obtain rfl:=List.mem_singleton.1 hx
   exact absurd h1 (by decide)
 ·simp[dE,et] at h1
theorem wD (w:World):Calls Tryz.prog 17 #[J #[C B prK.k,C B prK.n,D prK.s,A prK.a prK.l prK.c]] w fun e w'=>pK w w' prK.k prK.n prK.s [] prK.l e∧Below w.heap.size w w':=by
 refine m6 _ _ _ _ _ _ [] w fun W k=>?_
 refine(fT none 0 W).mono ?_
 rintro e w' ⟨rfl,k'⟩
 exact⟨⟨none,0,rfl,I _,by unfold ap;rfl⟩,k'⟩
theorem wR (a:Option Addr) (c:Nat) (w:World):Calls Tryz.prog 11 #[J #[C B 2,C B 5,D ⟨#[]⟩,A a 0 c],J #[C B 2,C B 5,D ⟨#[]⟩,A none 0 0]] w fun e w'=>e=G (.bool true)∧Below w.heap.size w w':=
 ii 2 5 ⟨#[]⟩ a 0 c 2 5 ⟨#[]⟩ none 0 0 0 w fun w' k=>f8 2 5 ⟨#[]⟩ a none 0 c 0 0 0 w' (by omega) (by omega) (.inl rfl) (fun _=>rfl) (fun h=>absurd h (S _)) (fun h=>absurd h (S _))
theorem wS (w:World):dH (w.alloc (F #[C B 3] 3)) [3] (some ⟨w.heap.size,0,none⟩) 1:=by
 refine⟨rfl,by omega,fun _=>⟨w.heap.size,0,rfl,by simp,fun i s hs=>?_⟩⟩
 cases i with
 | zero=>
   simp at hs
   subst hs
   exact ac (ae w _) 0
 | succ i=>simp at hs
def eu:ByteArray:=⟨#[97,98,99,100,101,102,103,104,105,106,107,108,109,110,111,112,113,114,115,116,117,118,119,120,121,122,65,66,67,68,69,70,71,72,73,74,75,76,77,78,79,80,81,82,83,84,85,86,87,88,89,90,48,49,50,51,52,53,54,55,56,57,95]⟩
theorem ru:(List.range 256).all (fun n=>eu.data.toList.contains (UInt8.ofNat n)==(kg (n:Nat)||kN (n:Nat)))=true:=by kernel_rfl
theorem wd (c:UInt8):eu.data.toList.contains c=(kg c.toNat||kN c.toNat):=by
 have h:=List.all_eq_true.1 ru c.toNat (List.mem_range.2 c.toNat_lt)
 have e:UInt8.ofNat c.toNat=c:=by simp
 rw[e] at h
 simpa using h
theorem mF (p:UInt8→Bool):∀l:List UInt8,l.dropWhile p = [] ↔ ∀x ∈ l,p x=true
 | []=>by simp
 | c::r=>by
   have ih:=mF p r
   by_cases h:p c=true
   ·rw[K,if_pos h,ih]
    simp[h]
   ·rw[K,if_neg h]
    simp[h]
theorem qk (p:UInt8→Bool):∀(l:List UInt8) (y:UInt8) (ys:List UInt8),l.dropWhile p=y::ys→p y=false
 | [],y,ys,h=>by simp at h
 | c::r,y,ys,h=>by
   by_cases hc:p c=true
   ·rw[K,if_pos hc] at h
    exact qk p r y ys h
   ·rw[K,if_neg hc] at h
    injection h with h1 h2
    subst h1
    simpa using hc
theorem rK (l cs:List UInt8):Lib.trimS l cs = [] ↔ ∀b ∈ l,cs.contains b=true:=by
 unfold Lib.trimS Lib.trimLeftS Lib.trimRightS
 rw[mF]
 constructor
 ·intro h
  cases hd:l.reverse.dropWhile (cs.contains ·) with
  | nil=>
    rw[mF] at hd
    exact fun b hb=>hd b (List.mem_reverse.2 hb)
  | cons y ys=>
    exfalso
    have h1:=h y (by rw[hd];simp)
    have h2:=qk _ _ _ _ hd
    rw[h1] at h2
    exact absurd h2 (by decide)
 ·intro h b hb
  have:l.reverse.dropWhile (cs.contains ·) = []:=by
   rw[mF]
   exact fun b hb=>h b (List.mem_reverse.1 hb)
  rw[this] at hb
  simp at hb
theorem j5:∀(l:List UInt8) (i:Nat),i≠0→(cM i l=true ↔ ∀b ∈ l,(kg b.toNat||kN b.toNat)=true)
 | [],i,_=>by simp[cM]
 | c::r,i,h=>by
   have ih:=j5 r (i+1) (by omega)
   have hi:(i != 0)=true:=by simpa using h
   unfold cM
   rw[hi,Bool.true_and,Bool.and_eq_true,ih]
   simp
theorem nS (c:UInt8) (r:List UInt8) (h:kN c.toNat=false):cM 0 (c::r)=(Lib.trimS (c::r) eu.data.toList).isEmpty:=by
 rw[Bool.eq_iff_iff,List.isEmpty_iff,rK]
 have:=j5 r 1 (by decide)
 unfold cM
 simp only[wd]
 rw[Bool.and_eq_true,this]
 simp[h]
theorem fz (l:List UInt8):(⟨l.toArray⟩:ByteArray).toList.isEmpty=l.isEmpty:=by
 rw[ByteArray.toList_eq]
theorem dT (s:ByteArray) (w:World) (hs:s.size≤9223372036854775807):Calls Tryz.prog 21 #[D s] w fun e w'=>e=G (.bool (nm s))∧Below w.heap.size w w':=by
 obtain⟨R,hR⟩:∃R,R=nm s:=⟨_,rfl⟩
 rw[←hR]
 have HR:=aa hR
 clear hR
 by_cases h0:s=⟨#[]⟩
 ·subst h0
  have H3:=aa (show R=false by rw[HR.out];rfl)
  clear HR
  go_enter Tryz.func21,Tryz.ntmps21
  go_wp2
  go_ret
  exact⟨aP (by rw[H3.out]),M _ _⟩
 ·have he:=bp h0
  have hp:0<s.size:=nh h0
  clear h0
  by_cases h12:12<s.size
  ·have h12':(12:Int)<s.size:=by omega
   have H3:=aa (show R=false by rw[HR.out,nm,decide_eq_false (p:=s.size≤12) (by omega)];simp)
   clear HR h12
   go_enter Tryz.func21,Tryz.ntmps21
   go_wp2
   go_ret
   exact⟨aP (by rw[H3.out]),M _ _⟩
  ·have h12':¬(12:Int)<s.size:=by omega
   have hd:=lX s 0 hp
   rw[List.drop_zero] at hd
   have HD:=aa hd
   have H3:=aa (show R=cM 0 s.data.toList by rw[HR.out,nm,decide_eq_true (p:=s.size≤12) (by omega),decide_eq_true hp];simp)
   have Hh:=aa h12
   clear HR hd h12
   have hdg:(48:Int)≤(s[0].toNat:Int)∧(s[0].toNat:Int)≤57∨¬(48:Int)≤(s[0].toNat:Int)∨(48:Int)≤(s[0].toNat:Int)∧¬(s[0].toNat:Int)≤57:=by omega
   have two:(48:Int)≤(s[0].toNat:Int)∧(s[0].toNat:Int)≤57→R=false:=fun h=>by
    rw[H3.out,HD.out]
    have:kg (s[0].toNat:Int)=false:=by
     simp only[kg,Bool.or_eq_false_iff,Bool.and_eq_false_iff,decide_eq_false_iff_not,beq_eq_false_iff_ne]
     omega
    simp[cM,this]
   have three:¬((48:Int)≤(s[0].toNat:Int)∧(s[0].toNat:Int)≤57)→R=(⟨(Lib.trimS s.data.toList eu.data.toList).toArray⟩:ByteArray).toList.isEmpty:=fun h=>by
    rw[fz,H3.out,HD.out]
    refine nS _ _ ?_
    simp only[kN,Bool.and_eq_false_iff,decide_eq_false_iff_not]
    omega
   have H4:=aa two
   have H5:=aa three
   have HT:Hid (∀W,Calls Tryz.prog 59 #[D s,D eu] W fun e w'=>e=G (D ⟨(Lib.trimS s.data.toList eu.data.toList).toArray⟩)∧Below W.heap.size W w'):=fun W=>Tryz.strings_Trim s eu W hs (by decide) (ascii_of_all (by decide))
   clear two three H3 HD
   rcases hdg with⟨h1,h2⟩ | h1 | ⟨h1,h2⟩
   ·have H6:=aa (H4.out ⟨h1,h2⟩)
    clear H4 H5
    go_enter Tryz.func21,Tryz.ntmps21
    go_wp2_with fail
    go_ret
    exact⟨aP (by rw[H6.out]),M _ _⟩
   ·have H6:=aa (H5.out (fun h=>h1 h.1))
    clear H4 H5
    generalize Lib.trimS s.data.toList eu.data.toList=tr at HT H6
    go_enter Tryz.func21,Tryz.ntmps21
    go_wp2_with fail
    refine(HT.out _).mono ?_
    rintro e w1 ⟨rfl,k1⟩
    go_wp2_with fail
    go_ret
    exact⟨aP (by rw[H6.out,fz]),k1⟩
   ·have H6:=aa (H5.out (fun h=>h2 h.2))
    clear H4 H5
    generalize Lib.trimS s.data.toList eu.data.toList=tr at HT H6
    go_enter Tryz.func21,Tryz.ntmps21
    go_wp2_with fail
    refine(HT.out _).mono ?_
    rintro e w1 ⟨rfl,k1⟩
    go_wp2_with fail
    go_ret
    exact⟨aP (by rw[H6.out,fz]),k1⟩
theorem nK {w:World} {P:List Pr} {pa:Option Addr} {pl:Nat} (pc:Nat) (hP:aX w P pa pl) (hO:∀p ∈ P,lm w p) (W:World) (k:Below w.heap.size w W):Calls Tryz.prog 72 #[A pa pl pc] W fun e w'=>e=G (C B (bJ P))∧Below W.heap.size W w':=
 j1 dv P pa pl pc W (hP.below k) fun p hp w2 k2=>by
  obtain⟨hs,L,_,_,hb,_⟩:=hO p hp
  exact oz p.k p.n p.s p.a p.l p.c p.e w2 fun w3 k3=>(hb w3 (af (af k k2) k3)).1
theorem gR {w:World} {P:List Pr} {pa:Option Addr} {pl:Nat} (pc:Nat) (hP:aX w P pa pl) (hO:∀p ∈ P,lm w p) (W:World) (k:Below w.heap.size w W):Calls Tryz.prog 20 #[A pa pl pc] W fun e w'=>e=G (C B (bJ P))∧Below W.heap.size W w':=
 lk dT P pa pl pc W (hP.below k) fun p hp w2 k2=>by
  obtain⟨hs,L,_,_,hb,_⟩:=hO p hp
  exact(hb w2 (af k k2)).2
end Go.Proofs.YtijjpoohhgapoaaGreatDoor

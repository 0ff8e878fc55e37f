import Derived.Test.YtijjpoohhgapoaaGreatDoorVQBA
namespace Go.Proofs.YtijjpoohhgapoaaGreatDoor
open Go.RowKit
set_option linter.unusedVariables false
set_option maxHeartbeats 4000000
set_option maxRecDepth 100000
open Value renaming slice → C, int → F, string → G, agg → J, tuple → K
open IntKind renaming i64 → D
open Obj renaming cells → H
open Ending renaming returned → M
open Nat renaming le_trans → O
open RowKit.Below renaming refl → Q
def evE (ge:Int) (il sl:Nat) (b r:Int):Int:=if ge≠0 then ge else if il≠sl∨30<sl then 2 else if b≠0 then b else r
theorem sK {ge:Int} {il sl:Nat} {b r:Int} (h:¬ge=0):evE ge il sl b r=ge:=if_pos h
theorem mD {il sl:Nat} {b r:Int} (h:¬il=sl):evE 0 il sl b r=2:=by
 show(if _ then _ else if _ then _ else _)=_
 rw[if_neg (by simp),if_pos (.inl h)]
theorem kL {il:Nat} {b r:Int} (h:¬il≤30):evE 0 il il b r=2:=by
 show(if _ then _ else if _ then _ else _)=_
 rw[if_neg (by simp),if_pos (.inr (by omega))]
theorem sL {il:Nat} {b r:Int} (h:il≤30) (hb:¬b=0):evE 0 il il b r=b:=by
 show(if _ then _ else if _ then _ else if _ then _ else _)=_
 rw[if_neg (by simp),if_neg (by simp;omega),if_pos hb]
theorem qj {il:Nat} {b r:Int} (h:il≤30) (hb:b=0):evE 0 il il b r=r:=by
 show(if _ then _ else if _ then _ else if _ then _ else _)=_
 rw[if_neg (by simp),if_neg (by simp;omega),if_neg (by simp[hb])]
def ta (W:World) (ER:Int) (t:T) (e:Ending) (w':World):Prop:=∃k n s a l c,e=M (K #[vC k n s a l c,F D ER])∧(ER≠0→k=0∧n=0∧s=⟨#[]⟩∧a=none∧l=0∧c=0)∧(ER=0→∃L,t = .node k n s L∧l≤c∧s.size≤9223372036854775807∧ap (fun i=>W.heap.size≤i) w' L a l)
theorem kJ {B:Nat} (w0 w:World) (na:Option Addr) (nl nc:Nat) (ea:Option Addr) (el ec:Nat) (next:Int) (sa:Option Addr) (sl sc:Nat) (ia:Option Addr) (il ic:Nat) (k vk vn:Int) (vs:ByteArray) (va:Option Addr) (vl vc:Nat) (nm:ByteArray) (a:Option Addr) (l c:Nat) (Lv:List T) (A:List Tm) (ge:Int) (BR:Int × List (ByteArray × ThR)) (q:List (ByteArray × Th)) (hw:Below w0.heap.size w0 w) (hB:B≤w0.heap.size) (hT:bD B w0) (ht:bd w0 k vk vn vs va vl vc nm a l c Lv A) (hI:InM (.node k (.node vk vn vs Lv) nm A))
  (hck:∀W,Below w0.heap.size w0 W→Calls Tryz.prog 13 #[J #[C na nl nc,C ea el ec,F D next]] W fun e w'=>e=M (F D ge)∧Below W.heap.size W w')
  (hbd:ge=0→il=sl→sl≤30→∀W,Below w0.heap.size w0 W→Calls Tryz.prog 14 #[J #[C na nl nc,C ea el ec,F D next],C sa sl sc,C ia il ic] W fun e w'=>mX BR e w'∧Below W.heap.size W w')
  (hq:ge=0→BR.1=0→aA (fQ w0) BR.2 q) (he:ge=0→BR.1=0→eK (aO q)) (hss:sl≤9223372036854775807) :
  Calls Tryz.prog 4 #[J #[C na nl nc,C ea el ec,F D next],C sa sl sc,C ia il ic,J #[F D k,F D vk,F D vn,G vs,C va vl vc,G nm,C a l c]] w fun e w'=>ta w (evE ge il sl BR.1 (bi (aO q) 6 (.node k (.node vk vn vs Lv) nm A))) (aI (aO q) 6 (.node k (.node vk vn vs Lv) nm A)) e w'∧Below w.heap.size w w':=by
 obtain⟨ER,hER⟩:∃z,z=evE ge il sl BR.1 (bi (aO q) 6 (.node k (.node vk vn vs Lv) nm A)):=⟨_,rfl⟩
 have HER:=aa hER
 obtain⟨TV,hTV⟩:∃z,z=aI (aO q) 6 (.node k (.node vk vn vs Lv) nm A):=⟨_,rfl⟩
 rw[←hTV,←hER]
 have HTV:=aa hTV
 have hb3:Below w.heap.size w (((w.alloc (H #[C na nl nc,C ea el ec,F D next] 25)).alloc (H #[F D k,F D vk,F D vn,G vs,C va vl vc,G nm,C a l c] 33)).alloc (H #[F D 0,F D 0,G ⟨#[]⟩,C none 0 0] 30)):=(((Q _ _).alloc (Nat.le_refl _) _).alloc (by simp) _).alloc (by simp;omega) _
 have hz:(((w.alloc (H #[C na nl nc,C ea el ec,F D next] 25)).alloc (H #[F D k,F D vk,F D vn,G vs,C va vl vc,G nm,C a l c] 33)).alloc (H #[F D 0,F D 0,G ⟨#[]⟩,C none 0 0] 30)).heap.size=w.heap.size+3:=by simp
 have h0:(((w.alloc (H #[C na nl nc,C ea el ec,F D next] 25)).alloc (H #[F D k,F D vk,F D vn,G vs,C va vl vc,G nm,C a l c] 33)).alloc (H #[F D 0,F D 0,G ⟨#[]⟩,C none 0 0] 30)).heap[w.heap.size]? = some (H #[C na nl nc,C ea el ec,F D next] 25 (0,0)):=by
  have hb:Below (w.heap.size+1) (w.alloc (H #[C na nl nc,C ea el ec,F D next] 25)) (((w.alloc (H #[C na nl nc,C ea el ec,F D next] 25)).alloc (H #[F D k,F D vk,F D vn,G vs,C va vl vc,G nm,C a l c] 33)).alloc (H #[F D 0,F D 0,G ⟨#[]⟩,C none 0 0] 30)):=((Q _ _).alloc (by simp) _).alloc (by simp) _
  exact(hb.block w.heap.size (by omega)).trans (ae w (H #[C na nl nc,C ea el ec,F D next] 25))
 have h1:(((w.alloc (H #[C na nl nc,C ea el ec,F D next] 25)).alloc (H #[F D k,F D vk,F D vn,G vs,C va vl vc,G nm,C a l c] 33)).alloc (H #[F D 0,F D 0,G ⟨#[]⟩,C none 0 0] 30)).heap[w.heap.size+1]? = some (H #[F D k,F D vk,F D vn,G vs,C va vl vc,G nm,C a l c] 33 (0,0)):=by
  have hb:Below (w.heap.size+2) ((w.alloc (H #[C na nl nc,C ea el ec,F D next] 25)).alloc (H #[F D k,F D vk,F D vn,G vs,C va vl vc,G nm,C a l c] 33)) (((w.alloc (H #[C na nl nc,C ea el ec,F D next] 25)).alloc (H #[F D k,F D vk,F D vn,G vs,C va vl vc,G nm,C a l c] 33)).alloc (H #[F D 0,F D 0,G ⟨#[]⟩,C none 0 0] 30)):=(Q _ _).alloc (by simp) _
  exact(hb.block (w.heap.size+1) (by omega)).trans (ay w (H #[C na nl nc,C ea el ec,F D next] 25) (H #[F D k,F D vk,F D vn,G vs,C va vl vc,G nm,C a l c] 33))
 have h2:(((w.alloc (H #[C na nl nc,C ea el ec,F D next] 25)).alloc (H #[F D k,F D vk,F D vn,G vs,C va vl vc,G nm,C a l c] 33)).alloc (H #[F D 0,F D 0,G ⟨#[]⟩,C none 0 0] 30)).heap[w.heap.size+2]? = some (H #[F D 0,F D 0,G ⟨#[]⟩,C none 0 0] 30 (0,0)):=by
  have e:((w.alloc (H #[C na nl nc,C ea el ec,F D next] 25)).alloc (H #[F D k,F D vk,F D vn,G vs,C va vl vc,G nm,C a l c] 33)).heap.size=w.heap.size+2:=by simp
  have:=ae ((w.alloc (H #[C na nl nc,C ea el ec,F D next] 25)).alloc (H #[F D k,F D vk,F D vn,G vs,C va vl vc,G nm,C a l c] 33)) (H #[F D 0,F D 0,G ⟨#[]⟩,C none 0 0] 30)
  rw[e] at this
  exact this
 have HB:=aa hb3
 have HZ:=aa hz
 have H0:=aa h0
 have H1:=aa h1
 have H2:=aa h2
 have HW:=aa hw
 have HCK:=aa hck
 have HBD:=aa hbd
 have HTM:=aa ht
 have HIN:=aa hI
 have HTT:=aa hT
 have HQQ:=aa hq
 have HEE:=aa he
 have HBB:=aa hB
 clear hb3 hz h0 h1 h2 hw hck hbd ht hI hT hq he hTV hB hER
 go_enter Tryz.func4,Tryz.ntmps4
 go_wp2_with fail
 refine(HCK.out _ (HW.out.trans (HB.out.mono HW.out.size))).mono ?_
 generalize ((w.alloc (H #[C na nl nc,C ea el ec,F D next] 25)).alloc (H #[F D k,F D vk,F D vn,G vs,C va vl vc,G nm,C a l c] 33)).alloc (H #[F D 0,F D 0,G ⟨#[]⟩,C none 0 0] 30)=W at HB H0 H1 H2 HZ ⊢
 rintro e u1 ⟨rfl,k1⟩
 have HK1:=aa (af HB.out k1)
 have HW1:Hid (Below w0.heap.size w0 u1):=HW.out.trans (HK1.out.mono HW.out.size)
 have HX1:Hid (Below (w.heap.size+3) W u1):=k1.mono (by rw[HZ.out];exact Nat.le_refl _)
 clear k1
 by_cases hge:ge=0
 ·subst hge
  by_cases hil:il=sl
  ·subst hil
   by_cases h30:il≤30
   ·have hl30:¬(30:Int)<il:=by omega
    have hg0:=(HX1.out.block w.heap.size (by omega)).trans H0.out
    obtain⟨q0,q1,q2⟩:=cj hg0
    simp at q0 q1 q2
    have hsz0:w.heap.size<u1.heap.size:=lt_block' hg0
    clear hg0
    go_wp2_with fail
    refine(HBD.out (by first | rfl | trivial) (by first | rfl | trivial) h30 _ HW1.out).mono ?_
    clear q0 q1 q2
    rintro e u2 ⟨hbe,k2⟩
    have HK2:=aa (af HK1.out k2)
    have HW2:Hid (Below w0.heap.size w0 u2):=HW.out.trans (HK2.out.mono HW.out.size)
    have HX2:Hid (Below (w.heap.size+3) W u2):=HX1.out.trans (k2.mono (by have:=HX1.out.size;rw[HZ.out] at this;exact this))
    rcases hbe with⟨hb0,rfl⟩ | ⟨hb0,m,rfl,hmap⟩
    ·have HB0:=aa hb0
     have hb':(BR.fst != 0)=true:=by simp[hb0]
     have hbx:=(HX2.out.block (w.heap.size+2) (by omega)).trans H2.out
     clear k2 hb0
     obtain⟨r0,r1,r2,r3⟩:=ai hbx
     obtain⟨f0,f1,f2,f3⟩:=aq hbx
     simp at r0 r1 r2 r3
     have HQ:=aa hbx
     have hsq:w.heap.size+2<u2.heap.size:=lt_block' hbx
     clear hbx
     go_wp2_with fail
     have eP:∀X:World,(((X.setCell ⟨w.heap.size+2,0,none⟩ (F D 0)).setCell ⟨w.heap.size+2,1,none⟩ (F D 0)).setCell ⟨w.heap.size+2,2,none⟩ (G ⟨#[]⟩)).setCell ⟨w.heap.size+2,3,none⟩ (C none 0 0)=au X (w.heap.size+2) 0 [F D 0,F D 0,G ⟨#[]⟩,C none 0 0]:=fun _=>rfl
     rw[eP]
     have E4:=dh HQ.out rfl (F D 0) (F D 0) (G ⟨#[]⟩) (C none 0 0)
     have hbb:Below w.heap.size w (au u2 (w.heap.size+2) 0 [F D 0,F D 0,G ⟨#[]⟩,C none 0 0]):=HK2.out.trans ((aE (w.heap.size+2) _ _ u2).mono (by omega))
     have hoth:∀j,j≠w.heap.size+2→(au u2 (w.heap.size+2) 0 [F D 0,F D 0,G ⟨#[]⟩,C none 0 0]).heap[j]? = u2.heap[j]?:=fun j hj=>aB _ _ _ _ j hj
     have hsz:(au u2 (w.heap.size+2) 0 [F D 0,F D 0,G ⟨#[]⟩,C none 0 0]).heap.size=u2.heap.size:=aD _ _ _ _
     generalize au u2 (w.heap.size+2) 0 [F D 0,F D 0,G ⟨#[]⟩,C none 0 0]=Y at E4 hbb hoth hsz ⊢
     obtain⟨t0,t1,t2,t3⟩:=ai E4
     simp at t0 t1 t2 t3
     exact bodyPost_ret (v:=K #[J #[F D 0,F D 0,G ⟨#[]⟩,C none 0 0],F D BR.fst]) (by simp[results,Tryz.results4,go_sem,t0,t1,t2,t3]) rfl ⟨⟨0,0,⟨#[]⟩,none,0,0,by rw[HER.out.trans (sL h30 HB0.out)],fun _=>⟨rfl,rfl,rfl,rfl,rfl,rfl⟩,fun h=>absurd ((HER.out.trans (sL h30 HB0.out)).symm.trans h) (HB0.out)⟩,hbb⟩
    ·have HB0:=aa hb0
     have hq2:aA (fQ u2) BR.2 q:=(HQQ.out (by first | rfl | trivial) hb0).mono fun p x _ _ hp=>⟨hp.1,hp.2.below HW2.out⟩
     have HNA:=aa (si hmap hq2)
     have HEV:=aa (HEE.out (by first | rfl | trivial) hb0)
     clear k2 hb0 hmap hq2
     go_wp2_with fail
     refine(rD u2).mono ?_
     rintro e u3 ⟨rfl,hbk⟩
     have HBK:Hid (dr u3 u2.heap.size (u2.heap.size+1)):=⟨hbk.blk,hbk.box⟩
     have k3:=hbk.bel
     have HK3:=aa (af HK2.out k3)
     have HW3:Hid (Below w0.heap.size w0 u3):=HW.out.trans (HK3.out.mono HW.out.size)
     have HX3:Hid (Below (w.heap.size+3) W u3):=HX2.out.trans (k3.mono (by have:=HX2.out.size;rw[HZ.out] at this;exact this))
     have HN3:=aa (HNA.out.below k3)
     have hs3:w.heap.size+3≤u3.heap.size:=by have:=HX3.out.size;rw[HZ.out] at this;exact this
     have HT3:=aa (HTM.out.below HW3.out)
     have hg1:=(HX3.out.block (w.heap.size+1) (by omega)).trans H1.out
     have c0:=ac hg1 0 ;have c1:=ac hg1 1 ;have c2:=ac hg1 2 ;have c3:=ac hg1 3 ;have c4:=ac hg1 4 ;have c5:=ac hg1 5 ;have c6:=ac hg1 6
     simp at c0 c1 c2 c3 c4 c5 c6
     clear hbk k3 hg1
     have HRT:=aa (nE (B:=B) u3 u3 k vk vn vs va vl vc nm a l c Lv A u2.heap.size m (u2.heap.size+1) (Q _ _) (O HBB.out HW3.out.size) (HTT.out.below (HW3.out.mono HBB.out)) HT3.out HN3.out HBK.out HIN.out)
     go_wp2_with fail
     refine HRT.out.mono ?_
     clear c0 c1 c2 c3 c4 c5 c6
     rintro e u4 ⟨rfl,k4⟩
     obtain⟨r,hr⟩:∃z,z=bi (aO q) 6 (.node k (.node vk vn vs Lv) nm A):=⟨_,rfl⟩
     rw[←hr]
     have HR:=aa hr
     have HK4:=aa (af HK3.out k4)
     have HX4:Hid (Below (w.heap.size+3) W u4):=HX3.out.trans (k4.mono hs3)
     have HU4:=aa k4
     have hs4:w.heap.size+3≤u4.heap.size:=O hs3 k4.size
     clear k4 hr
     by_cases hr0:r=0
     ·subst hr0
      have hrp:=(eH 6 _ HIN.out).1 HR.out.symm
      have HOO:Hid (ER=0):=HER.out.trans ((qj h30 HB0.out).trans HR.out.symm)
      have hg1:=(HX4.out.block (w.heap.size+1) (by omega)).trans H1.out
      have c0:=ac hg1 0 ;have c1:=ac hg1 1 ;have c2:=ac hg1 2 ;have c3:=ac hg1 3 ;have c4:=ac hg1 4 ;have c5:=ac hg1 5 ;have c6:=ac hg1 6
      simp at c0 c1 c2 c3 c4 c5 c6
      clear hg1
      have HVL:=aa (lp (B:=B) HEV.out 6 u3 u4 k vk vn vs va vl vc nm a l c Lv A u2.heap.size m (u2.heap.size+1) HU4.out (O HBB.out HW3.out.size) (HTT.out.below (HW3.out.mono HBB.out)) HT3.out HN3.out HBK.out hrp)
      have HCW:=aa (mH HEV.out 6 _ hrp)
      clear hrp
      go_wp2_with fail
      refine HVL.out.mono ?_
      clear c0 c1 c2 c3 c4 c5 c6
      rintro e u5 ⟨⟨rk,rn,rs,ra,rl,rc,Lr,rfl,hre,hrlc,hrs,hrL⟩,k5⟩
      have hwt:wtL Lr≤1099511627776:=by
       have:=HCW.out.wt6
       rw[hre] at this
       unfold wtT at this
       omega
      have HFR:=aa (rv rk rn rs ra rl rc Lr u5 (ap.lies _ _ _ hrL) hwt)
      have HRE:=aa hre
      have HRS:=aa hrs
      have HK5:=aa (af HK4.out k5)
      have HX5:Hid (Below (w.heap.size+3) W u5):=HX4.out.trans (k5.mono hs4)
      have hs5:w.heap.size+3≤u5.heap.size:=O hs4 k5.size
      clear hre hrlc hrs hrL k5 hwt
      go_wp2_with fail
      refine HFR.out.mono ?_
      rintro e u6 ⟨⟨fa,fc,rfl,hfc,hfL⟩,k6⟩
      have HK6:=aa (af HK5.out k6)
      have HFC:=aa hfc
      have HFL:=aa hfL
      have hbx:=((k6.block (w.heap.size+2) (by omega)).trans (HX5.out.block (w.heap.size+2) (by omega))).trans H2.out
      clear k6 hfc hfL
      obtain⟨r0,r1,r2,r3⟩:=ai hbx
      obtain⟨f0,f1,f2,f3⟩:=aq hbx
      simp at r0 r1 r2 r3
      have HQ:=aa hbx
      have hsq:w.heap.size+2<u6.heap.size:=lt_block' hbx
      clear hbx
      go_wp2_with fail
      have eP:∀X:World,(((X.setCell ⟨w.heap.size+2,0,none⟩ (F D rk)).setCell ⟨w.heap.size+2,1,none⟩ (F D rn)).setCell ⟨w.heap.size+2,2,none⟩ (G rs)).setCell ⟨w.heap.size+2,3,none⟩ (C fa rl fc)=au X (w.heap.size+2) 0 [F D rk,F D rn,G rs,C fa rl fc]:=fun _=>rfl
      rw[eP]
      have E4:=dh HQ.out rfl (F D rk) (F D rn) (G rs) (C fa rl fc)
      have hbb:Below w.heap.size w (au u6 (w.heap.size+2) 0 [F D rk,F D rn,G rs,C fa rl fc]):=HK6.out.trans ((aE (w.heap.size+2) _ _ u6).mono (by omega))
      have hoth:∀j,j≠w.heap.size+2→(au u6 (w.heap.size+2) 0 [F D rk,F D rn,G rs,C fa rl fc]).heap[j]? = u6.heap[j]?:=fun j hj=>aB _ _ _ _ j hj
      have hsz:(au u6 (w.heap.size+2) 0 [F D rk,F D rn,G rs,C fa rl fc]).heap.size=u6.heap.size:=aD _ _ _ _
      generalize au u6 (w.heap.size+2) 0 [F D rk,F D rn,G rs,C fa rl fc]=Y at E4 hbb hoth hsz ⊢
      obtain⟨t0,t1,t2,t3⟩:=ai E4
      simp at t0 t1 t2 t3
      exact bodyPost_ret (v:=K #[J #[F D rk,F D rn,G rs,C fa rl fc],F D 0]) (by simp[results,Tryz.results4,go_sem,t0,t1,t2,t3]) rfl ⟨⟨rk,rn,rs,fa,rl,fc,by rw[HOO.out],fun h=>absurd HOO.out h,fun _=>⟨Lr,by rw[HTV.out];exact HRE.out,HFC.out,HRS.out,ap.kept (A':=fun i=>w.heap.size≤i) (Nat.le_of_eq hsz.symm) (fun j hj hl=>⟨by omega,hoth j (by omega)⟩) _ _ _ HFL.out⟩⟩,hbb⟩
     ·have hr':(r != 0)=true:=by simp[hr0]
      have hbx:=(HX4.out.block (w.heap.size+2) (by omega)).trans H2.out
      obtain⟨r0,r1,r2,r3⟩:=ai hbx
      obtain⟨f0,f1,f2,f3⟩:=aq hbx
      simp at r0 r1 r2 r3
      have HQ:=aa hbx
      have hsq:w.heap.size+2<u4.heap.size:=lt_block' hbx
      clear hbx
      go_wp2_with fail
      have eP:∀X:World,(((X.setCell ⟨w.heap.size+2,0,none⟩ (F D 0)).setCell ⟨w.heap.size+2,1,none⟩ (F D 0)).setCell ⟨w.heap.size+2,2,none⟩ (G ⟨#[]⟩)).setCell ⟨w.heap.size+2,3,none⟩ (C none 0 0)=au X (w.heap.size+2) 0 [F D 0,F D 0,G ⟨#[]⟩,C none 0 0]:=fun _=>rfl
      rw[eP]
      have E4:=dh HQ.out rfl (F D 0) (F D 0) (G ⟨#[]⟩) (C none 0 0)
      have hbb:Below w.heap.size w (au u4 (w.heap.size+2) 0 [F D 0,F D 0,G ⟨#[]⟩,C none 0 0]):=HK4.out.trans ((aE (w.heap.size+2) _ _ u4).mono (by omega))
      have hoth:∀j,j≠w.heap.size+2→(au u4 (w.heap.size+2) 0 [F D 0,F D 0,G ⟨#[]⟩,C none 0 0]).heap[j]? = u4.heap[j]?:=fun j hj=>aB _ _ _ _ j hj
      have hsz:(au u4 (w.heap.size+2) 0 [F D 0,F D 0,G ⟨#[]⟩,C none 0 0]).heap.size=u4.heap.size:=aD _ _ _ _
      generalize au u4 (w.heap.size+2) 0 [F D 0,F D 0,G ⟨#[]⟩,C none 0 0]=Y at E4 hbb hoth hsz ⊢
      obtain⟨t0,t1,t2,t3⟩:=ai E4
      simp at t0 t1 t2 t3
      exact bodyPost_ret (v:=K #[J #[F D 0,F D 0,G ⟨#[]⟩,C none 0 0],F D r]) (by simp[results,Tryz.results4,go_sem,t0,t1,t2,t3]) rfl ⟨⟨0,0,⟨#[]⟩,none,0,0,by rw[HER.out.trans ((qj h30 HB0.out).trans HR.out.symm)],fun _=>⟨rfl,rfl,rfl,rfl,rfl,rfl⟩,fun h=>absurd ((HER.out.trans ((qj h30 HB0.out).trans HR.out.symm)).symm.trans h) (hr0)⟩,hbb⟩
   ·have hl30:(30:Int)<il:=by omega
    have hbx:=(HX1.out.block (w.heap.size+2) (by omega)).trans H2.out
    obtain⟨r0,r1,r2,r3⟩:=ai hbx
    obtain⟨f0,f1,f2,f3⟩:=aq hbx
    simp at r0 r1 r2 r3
    have HQ:=aa hbx
    have hsq:w.heap.size+2<u1.heap.size:=lt_block' hbx
    clear hbx
    go_wp2_with fail
    have eP:∀X:World,(((X.setCell ⟨w.heap.size+2,0,none⟩ (F D 0)).setCell ⟨w.heap.size+2,1,none⟩ (F D 0)).setCell ⟨w.heap.size+2,2,none⟩ (G ⟨#[]⟩)).setCell ⟨w.heap.size+2,3,none⟩ (C none 0 0)=au X (w.heap.size+2) 0 [F D 0,F D 0,G ⟨#[]⟩,C none 0 0]:=fun _=>rfl
    rw[eP]
    have E4:=dh HQ.out rfl (F D 0) (F D 0) (G ⟨#[]⟩) (C none 0 0)
    have hbb:Below w.heap.size w (au u1 (w.heap.size+2) 0 [F D 0,F D 0,G ⟨#[]⟩,C none 0 0]):=HK1.out.trans ((aE (w.heap.size+2) _ _ u1).mono (by omega))
    have hoth:∀j,j≠w.heap.size+2→(au u1 (w.heap.size+2) 0 [F D 0,F D 0,G ⟨#[]⟩,C none 0 0]).heap[j]? = u1.heap[j]?:=fun j hj=>aB _ _ _ _ j hj
    have hsz:(au u1 (w.heap.size+2) 0 [F D 0,F D 0,G ⟨#[]⟩,C none 0 0]).heap.size=u1.heap.size:=aD _ _ _ _
    generalize au u1 (w.heap.size+2) 0 [F D 0,F D 0,G ⟨#[]⟩,C none 0 0]=Y at E4 hbb hoth hsz ⊢
    obtain⟨t0,t1,t2,t3⟩:=ai E4
    simp at t0 t1 t2 t3
    exact bodyPost_ret (v:=K #[J #[F D 0,F D 0,G ⟨#[]⟩,C none 0 0],F D 2]) (by simp[results,Tryz.results4,go_sem,t0,t1,t2,t3]) rfl ⟨⟨0,0,⟨#[]⟩,none,0,0,by rw[HER.out.trans (kL h30)],fun _=>⟨rfl,rfl,rfl,rfl,rfl,rfl⟩,fun h=>absurd ((HER.out.trans (kL h30)).symm.trans h) (by decide)⟩,hbb⟩
  ·have hne:((il:Int) != (sl:Int))=true:=by simp;omega
   have hbx:=(HX1.out.block (w.heap.size+2) (by omega)).trans H2.out
   obtain⟨r0,r1,r2,r3⟩:=ai hbx
   obtain⟨f0,f1,f2,f3⟩:=aq hbx
   simp at r0 r1 r2 r3
   have HQ:=aa hbx
   have hsq:w.heap.size+2<u1.heap.size:=lt_block' hbx
   clear hbx
   go_wp2_with fail
   have eP:∀X:World,(((X.setCell ⟨w.heap.size+2,0,none⟩ (F D 0)).setCell ⟨w.heap.size+2,1,none⟩ (F D 0)).setCell ⟨w.heap.size+2,2,none⟩ (G ⟨#[]⟩)).setCell ⟨w.heap.size+2,3,none⟩ (C none 0 0)=au X (w.heap.size+2) 0 [F D 0,F D 0,G ⟨#[]⟩,C none 0 0]:=fun _=>rfl
   rw[eP]
   have E4:=dh HQ.out rfl (F D 0) (F D 0) (G ⟨#[]⟩) (C none 0 0)
   have hbb:Below w.heap.size w (au u1 (w.heap.size+2) 0 [F D 0,F D 0,G ⟨#[]⟩,C none 0 0]):=HK1.out.trans ((aE (w.heap.size+2) _ _ u1).mono (by omega))
   have hoth:∀j,j≠w.heap.size+2→(au u1 (w.heap.size+2) 0 [F D 0,F D 0,G ⟨#[]⟩,C none 0 0]).heap[j]? = u1.heap[j]?:=fun j hj=>aB _ _ _ _ j hj
   have hsz:(au u1 (w.heap.size+2) 0 [F D 0,F D 0,G ⟨#[]⟩,C none 0 0]).heap.size=u1.heap.size:=aD _ _ _ _
   generalize au u1 (w.heap.size+2) 0 [F D 0,F D 0,G ⟨#[]⟩,C none 0 0]=Y at E4 hbb hoth hsz ⊢
   obtain⟨t0,t1,t2,t3⟩:=ai E4
   simp at t0 t1 t2 t3
   exact bodyPost_ret (v:=K #[J #[F D 0,F D 0,G ⟨#[]⟩,C none 0 0],F D 2]) (by simp[results,Tryz.results4,go_sem,t0,t1,t2,t3]) rfl ⟨⟨0,0,⟨#[]⟩,none,0,0,by rw[HER.out.trans (mD hil)],fun _=>⟨rfl,rfl,rfl,rfl,rfl,rfl⟩,fun h=>absurd ((HER.out.trans (mD hil)).symm.trans h) (by decide)⟩,hbb⟩
 ·have hge':(ge != 0)=true:=by simp[hge]
  have hbx:=(HX1.out.block (w.heap.size+2) (by omega)).trans H2.out
  obtain⟨r0,r1,r2,r3⟩:=ai hbx
  obtain⟨f0,f1,f2,f3⟩:=aq hbx
  simp at r0 r1 r2 r3
  have HQ:=aa hbx
  have hsq:w.heap.size+2<u1.heap.size:=lt_block' hbx
  clear hbx
  go_wp2_with fail
  have eP:∀X:World,(((X.setCell ⟨w.heap.size+2,0,none⟩ (F D 0)).setCell ⟨w.heap.size+2,1,none⟩ (F D 0)).setCell ⟨w.heap.size+2,2,none⟩ (G ⟨#[]⟩)).setCell ⟨w.heap.size+2,3,none⟩ (C none 0 0)=au X (w.heap.size+2) 0 [F D 0,F D 0,G ⟨#[]⟩,C none 0 0]:=fun _=>rfl
  rw[eP]
  have E4:=dh HQ.out rfl (F D 0) (F D 0) (G ⟨#[]⟩) (C none 0 0)
  have hbb:Below w.heap.size w (au u1 (w.heap.size+2) 0 [F D 0,F D 0,G ⟨#[]⟩,C none 0 0]):=HK1.out.trans ((aE (w.heap.size+2) _ _ u1).mono (by omega))
  have hoth:∀j,j≠w.heap.size+2→(au u1 (w.heap.size+2) 0 [F D 0,F D 0,G ⟨#[]⟩,C none 0 0]).heap[j]? = u1.heap[j]?:=fun j hj=>aB _ _ _ _ j hj
  have hsz:(au u1 (w.heap.size+2) 0 [F D 0,F D 0,G ⟨#[]⟩,C none 0 0]).heap.size=u1.heap.size:=aD _ _ _ _
  generalize au u1 (w.heap.size+2) 0 [F D 0,F D 0,G ⟨#[]⟩,C none 0 0]=Y at E4 hbb hoth hsz ⊢
  obtain⟨t0,t1,t2,t3⟩:=ai E4
  simp at t0 t1 t2 t3
  exact bodyPost_ret (v:=K #[J #[F D 0,F D 0,G ⟨#[]⟩,C none 0 0],F D ge]) (by simp[results,Tryz.results4,go_sem,t0,t1,t2,t3]) rfl ⟨⟨0,0,⟨#[]⟩,none,0,0,by rw[HER.out.trans (sK hge)],fun _=>⟨rfl,rfl,rfl,rfl,rfl,rfl⟩,fun h=>absurd ((HER.out.trans (sK hge)).symm.trans h) (hge)⟩,hbb⟩
def uv (W:World) (OKP:Prop) (t:T) (e:Ending) (w':World):Prop:=∃er k n s a l c,e=M (K #[vC k n s a l c,F D er])∧(er=0 ↔ OKP)∧(OKP→∃L,t = .node k n s L∧l≤c∧s.size≤9223372036854775807∧ap (fun i=>W.heap.size≤i) w' L a l)
theorem sJ (ge:Int) (il sl:Nat) (b r:Int):evE ge il sl b r=0 ↔ (ge=0∧il=sl∧sl≤30∧b=0∧r=0):=by
 unfold evE
 by_cases h1:ge=0
 ·rw[if_neg (by simp[h1])]
  by_cases h2:il≠sl∨30<sl
  ·rw[if_pos h2]
   exact⟨fun h=>(by cases h),fun h=>by rcases h2 with h2 | h2;exact absurd h.2.1 h2;omega⟩
  ·rw[if_neg h2]
   have h3:il=sl∧sl≤30:=by omega
   by_cases h4:b=0
   ·rw[if_neg (by simp[h4])]
    exact⟨fun h=>⟨h1,h3.1,h3.2,h4,h⟩,fun h=>h.2.2.2.2⟩
   ·rw[if_pos h4]
    exact⟨fun h=>absurd h h4,fun h=>h.2.2.2.1⟩
 ·rw[if_pos h1]
  exact⟨fun h=>absurd h h1,fun h=>h.1⟩
theorem kK {B:Nat} (w0 w:World) (na:Option Addr) (nl nc:Nat) (ea:Option Addr) (el ec:Nat) (next:Int) (sa:Option Addr) (sl sc:Nat) (ia:Option Addr) (il ic:Nat) (k vk vn:Int) (vs:ByteArray) (va:Option Addr) (vl vc:Nat) (nm:ByteArray) (a:Option Addr) (l c:Nat) (Lv:List T) (A:List Tm) (ge:Int) (BR:Int × List (ByteArray × ThR)) (q:List (ByteArray × Th)) (hw:Below w0.heap.size w0 w) (hB:B≤w0.heap.size) (hT:bD B w0) (ht:bd w0 k vk vn vs va vl vc nm a l c Lv A) (hI:InM (.node k (.node vk vn vs Lv) nm A))
  (hck:∀W,Below w0.heap.size w0 W→Calls Tryz.prog 13 #[J #[C na nl nc,C ea el ec,F D next]] W fun e w'=>e=M (F D ge)∧Below W.heap.size W w')
  (hbd:ge=0→il=sl→sl≤30→∀W,Below w0.heap.size w0 W→Calls Tryz.prog 14 #[J #[C na nl nc,C ea el ec,F D next],C sa sl sc,C ia il ic] W fun e w'=>mX BR e w'∧Below W.heap.size W w')
  (hq:ge=0→BR.1=0→aA (fQ w0) BR.2 q) (he:ge=0→BR.1=0→eK (aO q)) (hss:sl≤9223372036854775807) :
  Calls Tryz.prog 4 #[J #[C na nl nc,C ea el ec,F D next],C sa sl sc,C ia il ic,J #[F D k,F D vk,F D vn,G vs,C va vl vc,G nm,C a l c]] w fun e w'=>uv w (ge=0∧il=sl∧sl≤30∧BR.1=0∧aS (aO q) 6 (.node k (.node vk vn vs Lv) nm A)) (aI (aO q) 6 (.node k (.node vk vn vs Lv) nm A)) e w'∧Below w.heap.size w w':=by
 refine dm (kJ (B:=B) w0 w na nl nc ea el ec next sa sl sc ia il ic k vk vn vs va vl vc nm a l c Lv A ge BR q hw hB hT ht hI hck hbd hq he hss) fun e w' h=>⟨?_,h.2⟩
 obtain⟨k',n',s',a',l',c',h0,_,h2⟩:=h.1
 have hz:evE ge il sl BR.1 (bi (aO q) 6 (.node k (.node vk vn vs Lv) nm A))=0 ↔ (ge=0∧il=sl∧sl≤30∧BR.1=0∧aS (aO q) 6 (.node k (.node vk vn vs Lv) nm A)):=(sJ ..).trans (by rw[eH 6 _ hI])
 exact⟨_,k',n',s',a',l',c',h0,hz,fun hh=>h2 (hz.2 hh)⟩
theorem my:∀(l:List Int) (ah:Int),(∀y ∈ l,ah≤y)→ez l→ah≤bU ah l∧∀y ∈ l,y≤bU ah l
 | [],ah,_,_=>⟨Int.le_refl _,fun y h=>by cases h⟩
 | x::r,ah,ha,hr=>by
   have hx:=ha x (List.mem_cons_self ..)
   have hr':ez r:=fun i j a b hij hi hj=>hr (i+1) (j+1) a b (by omega) (by simpa using hi) (by simpa using hj)
   have hxr:∀y ∈ r,x≤y:=fun y hy=>by
    obtain⟨j,hj⟩:=List.getElem?_of_mem hy
    have:=hr 0 (j+1) x y (by omega) rfl (by simpa using hj)
    omega
   obtain⟨h1,h2⟩:=my r x hxr hr'
   show ah≤bU x r∧∀y ∈ x::r,y≤bU x r
   refine⟨by omega,fun y hy=>?_⟩
   rcases List.mem_cons.1 hy with rfl | hy
   ·exact h1
   ·exact h2 y hy
theorem sG {N:List Nd} {E:List Ed} {next:Int} (h:gE N E next=0):(∀x ∈ N,0<x.id∧x.id<1099511627776)∧(∀x ∈ E,0<x.id∧x.id<1099511627776∧nm x.typ=true):=by
 unfold gE at h
 split at h
 ·exact absurd h (by decide)
 ·split at h
  ·rename_i h2
   split at h
   ·rename_i h3
    split at h
    ·exact absurd h (by decide)
    ·rename_i h4
     obtain⟨r1,a1⟩:=j6 N 0 h2
     obtain⟨r2,a2⟩:=pD N E 0 h3
     have l1:=(my (N.map Nd.id) 0 (fun y hy=>by obtain⟨x,hx,rfl⟩:=List.mem_map.1 hy;have:=(a1 x hx).1;omega) r1).2
     have l2:=(my (E.map Ed.id) 0 (fun y hy=>by obtain⟨x,hx,rfl⟩:=List.mem_map.1 hy;have:=(a2 x hx).1;omega) r2).2
     refine⟨fun x hx=>⟨(a1 x hx).1,?_⟩,fun x hx=>⟨(a2 x hx).1,?_,(a2 x hx).2.2.1⟩⟩
     ·have:=l1 x.id (List.mem_map.2 ⟨x,hx,rfl⟩);omega
     ·have:=l2 x.id (List.mem_map.2 ⟨x,hx,rfl⟩);omega
   ·rename_i h3
    exact absurd h h3
  ·rename_i h2
   exact absurd h h2
theorem lI:∀(P:List Pr) (ah:ByteArray),prE ah P=0→∀p ∈ P,p.e=0
 | [],_,_=>fun p hp=>by cases hp
 | q::P,ah,h=>by
   unfold prE at h
   split at h
   ·split at h
    ·rename_i h1 h2
     intro p hp
     rcases List.mem_cons.1 hp with rfl | hp
     ·exact h2
     ·exact lI P _ h p hp
    ·rename_i h1 h2
     exact absurd h h2
   ·exact absurd h (by decide)
theorem oY {P:List Pr} (h:bJ P=0):∀p ∈ P,p.e=0:=by
 unfold bJ at h
 split at h
 ·exact absurd h (by decide)
 ·exact lI P _ h
theorem ip {w:World} {P:List Pr} {pa:Option Addr} {pl:Nat} (hP:aX w P pa pl) (hO:∀p ∈ P,lm w p) (h0:bJ P=0):∃X:List AP,aA (eg fI w) P X∧∀x ∈ X,Ck 6 x.t:=by
 obtain⟨X,hX⟩:=eQ (R:=fun p x=>eg fI w p x∧Ck 6 x.t) P (fun p hp=>by
  obtain⟨⟨h1,h2⟩,L,_,h3,_,h4⟩:=hO p hp
  have hck:=h4 (oY h0 p hp)
  obtain⟨i,hi⟩:=List.getElem?_of_mem hp
  have hil:=(List.getElem?_eq_some_iff.1 hi).1
  obtain⟨b,off,_,_,hc⟩:=hP.2.2 (by rw[hP.1];omega)
  exact⟨⟨p.name,.node p.k p.n p.s L⟩,⟨rfl,(hc i p hi).1,h1,h2,L,rfl,am.lie _ _ _ h3⟩,hck⟩)
 refine⟨X,hX.mono fun _ _ _ _ h=>h.1,fun x hx=>?_⟩
 obtain⟨i,hi⟩:=List.getElem?_of_mem hx
 obtain⟨p,_,h⟩:=hX.right hi
 exact h.2
def Th.ok (x:Th):Prop:=(-9223372036854775808≤x.id∧x.id≤9223372036854775807)∧x.typ.size≤4000∧∀p ∈ x.props,Ck 6 p.t
theorem qR {N:List Nd} {E:List Ed} {id:Int} {x:ThR} (h:bg N E id=some x):(∃y ∈ N,x=y.tr)∨∃y ∈ E,x=y.tr:=by
 unfold bg at h
 cases hn:N.find? (fun x=>x.id==id) with
 | some y=>
   rw[hn] at h
   injection h with h
   exact .inl ⟨y,List.mem_of_find?_eq_some hn,h.symm⟩
 | none=>
   rw[hn] at h
   cases he:E.find? (fun x=>x.id==id) with
   | none=>rw[he] at h;cases h
   | some y=>
     rw[he] at h
     injection h with h
     exact .inr ⟨y,List.mem_of_find?_eq_some he,h.symm⟩
theorem kT {N:List Nd} {E:List Ed}:∀(S:List ByteArray) (I:List Int) (l:List (ByteArray × ThR)) (p:ByteArray × ThR),p ∈ (bl N E S I l).2→p ∈ l∨∃id,bg N E id=some p.2
 | [],I,l,p,h=>.inl h
 | s::S,I,l,p,h=>by
   unfold bl at h
   split at h
   ·cases h
   ·split at h
    ·cases h
    ·rename_i x hx
     rcases kT S I.tail (l ++ [(s,x)]) p h with h | h
     ·rcases List.mem_append.1 h with h | h
      ·exact .inl h
      ·rw[List.mem_singleton.1 h]
       exact .inr ⟨_,hx⟩
     ·exact .inr h
theorem qa {s:ByteArray} (h:nm s=true):s.size≤12:=by
 unfold nm at h
 simp at h
 exact h.1.2
theorem vf {w:World} {N:List Nd} {E:List Ed} {na:Option Addr} {nl:Nat} {ea:Option Addr} {el:Nat} (h:iN w N E na nl ea el) {next:Int} (hg:gE N E next=0) (S:List ByteArray) (I:List Int):∃q,aA (fQ w) (bl N E S I []).2 q∧eK (aO q):=by
 have hR:=n7 hg
 obtain⟨hiN,hiE⟩:=sG hg
 obtain⟨q,hq⟩:=eQ (R:=fun p y=>fQ w p y∧y.2.ok) (bl N E S I []).2 (fun p hp=>by
  rcases kT S I [] p hp with hp | ⟨id,hp⟩
  ·cases hp
  ·obtain⟨ps,pt⟩:=p
   rcases qR hp with⟨y,hy,rfl⟩ | ⟨y,hy,rfl⟩
   ·obtain⟨X,hX,hck⟩:=ip (h.2.2.1 y hy).2.1 (h.2.2.1 y hy).2.2 (hR.nodes y hy).2
    have:=hiN y hy
    exact⟨(ps,⟨false,y.id,⟨#[]⟩,X⟩),⟨rfl,y.props,y.pa,y.pl,y.pc,rfl,by show(0:Nat)≤_;omega,(h.2.2.1 y hy).2.1,hX⟩,⟨by show -9223372036854775808≤y.id;omega,by show y.id≤_;omega⟩,by show(0:Nat)≤_;omega,hck⟩
   ·obtain⟨X,hX,hck⟩:=ip (h.2.2.2 y hy).1 (h.2.2.2 y hy).2 (hR.edges y hy).2.2.2
    have:=hiE y hy
    have hs:=qa this.2.2
    exact⟨(ps,⟨true,y.id,y.typ,X⟩),⟨rfl,y.props,y.pa,y.pl,y.pc,rfl,by show y.typ.size≤_;omega,(h.2.2.2 y hy).1,hX⟩,⟨by show -9223372036854775808≤y.id;omega,by show y.id≤_;omega⟩,by show y.typ.size≤4000;omega,hck⟩)
 refine⟨q,hq.mono fun _ _ _ _ h=>h.1,fun s x hx=>?_⟩
 unfold aO at hx
 cases hf:q.find? (fun p=>s==p.1) with
 | none=>rw[hf] at hx;cases hx
 | some y=>
   rw[hf] at hx
   injection hx with hx
   obtain⟨i,hi⟩:=List.getElem?_of_mem (List.mem_of_find?_eq_some hf)
   obtain⟨p,_,_,hok⟩:=hq.right hi
   rw[←hx]
   exact hok
end Go.Proofs.YtijjpoohhgapoaaGreatDoor

import Derived.Test.YtijjpoohhgapoaaGreatDoorVQBP
namespace Go.Proofs.YtijjpoohhgapoaaGreatDoor
open Go.RowKit
set_option linter.unusedVariables false
set_option maxHeartbeats 8000000
set_option maxRecDepth 100000
open Value renaming slice → C, int → F, string → G, agg → L
open IntKind renaming i64 → D
open Obj renaming cells → H
open Ending renaming returned → J
open RowKit.Below renaming refl → K
open Nat renaming le_refl → M
theorem mw {B:Nat} (w:World) (N:List Nd) (E:List Ed) (na:Option Addr) (nl nc:Nat) (ea:Option Addr) (el ec:Nat) (next:Int) (S:List ByteArray) (sa:Option Addr) (sl sc:Nat) (I:List Int) (ia:Option Addr) (il ic:Nat) (k vk vn:Int) (vs:ByteArray) (va:Option Addr) (vl vc:Nat) (nm:ByteArray) (a:Option Addr) (l c:Nat) (Lv:List T) (A:List Tm) (mx:Int) (hGr:iN w N E na nl ea el) (hS:cD w S sa sl) (hII:dH w I ia il) (hB:B≤w.heap.size) (hT:bD B w) (ht:bd w k vk vn vs va vl vc nm a l c Lv A) (hI:InM (.node k (.node vk vn vs Lv) nm A)) (hm:w.cell? ⟨2,0,none⟩=some (F D mx)) (hgm:2<w.heap.size) (hbad:¬(gE N E next=0∧il=sl∧sl≤30)):Calls Tryz.prog 3 #[L #[C na nl nc,C ea el ec,F D next],C sa sl sc,C ia il ic,L #[F D k,F D vk,F D vn,G vs,C va vl vc,G nm,C a l c]] w fun e w'=>e=J (.bool true)∧Below w.heap.size w w':=by
 have HBAD:=aa hbad
 have hsl:=hS.2.1
 have hil:=hII.2.1
 clear hbad
 obtain⟨q,hq,hev⟩:=lV hGr nc ec next sc ic hS hII hB hT k vk vn vs va vl vc nm a l c Lv A ht hI
 obtain⟨ER,hER⟩:∃z,z=evE (gE N E next) il sl (bl N E S I []).1 (bi (aO q) 6 (.node k (.node vk vn vs Lv) nm A)):=⟨_,rfl⟩
 obtain⟨TV,hTV⟩:∃z,z=aI (aO q) 6 (.node k (.node vk vn vs Lv) nm A):=⟨_,rfl⟩
 obtain⟨ge,hge⟩:∃z,z=gE N E next:=⟨_,rfl⟩
 have hcg:=fun W hW=>gS hGr nc ec next W hW
 rw[←hER,←hTV] at hev
 rw[←hge] at hER hcg hq
 have HEV:=aa hev
 have HCG:=aa hcg
 have HQ:=aa hq
 have HER:=aa hER
 have HTV:=aa hTV
 have HGR:=aa hGr
 have HSS:=aa hS
 have HII:=aa hII
 have HTB:=aa hT
 have HBB:=aa hB
 have HTA:=aa ht
 have HIN:=aa hI
 have HMX:=aa (show w.cell? ⟨2,0,none⟩=some (F D mx)∧2<w.heap.size from⟨hm,hgm⟩)
 have HGE:=aa hge
 have hb2:Below w.heap.size w ((w.alloc (H #[C na nl nc,C ea el ec,F D next] 25)).alloc (H #[F D k,F D vk,F D vn,G vs,C va vl vc,G nm,C a l c] 33)):=((K _ _).alloc (M _) _).alloc (by simp) _
 have hz:((w.alloc (H #[C na nl nc,C ea el ec,F D next] 25)).alloc (H #[F D k,F D vk,F D vn,G vs,C va vl vc,G nm,C a l c] 33)).heap.size=w.heap.size+2:=by simp
 have h0:((w.alloc (H #[C na nl nc,C ea el ec,F D next] 25)).alloc (H #[F D k,F D vk,F D vn,G vs,C va vl vc,G nm,C a l c] 33)).heap[w.heap.size]? = some (H #[C na nl nc,C ea el ec,F D next] 25 (0,0)):=(Below.heap_alloc (w.alloc (H #[C na nl nc,C ea el ec,F D next] 25)) (H #[F D k,F D vk,F D vn,G vs,C va vl vc,G nm,C a l c] 33) w.heap.size (by simp)).trans (ae w (H #[C na nl nc,C ea el ec,F D next] 25))
 have h1:((w.alloc (H #[C na nl nc,C ea el ec,F D next] 25)).alloc (H #[F D k,F D vk,F D vn,G vs,C va vl vc,G nm,C a l c] 33)).heap[w.heap.size+1]? = some (H #[F D k,F D vk,F D vn,G vs,C va vl vc,G nm,C a l c] 33 (0,0)):=ay w (H #[C na nl nc,C ea el ec,F D next] 25) (H #[F D k,F D vk,F D vn,G vs,C va vl vc,G nm,C a l c] 33)
 have HB:=aa hb2
 have HZ:=aa hz
 have H0:=aa h0
 have H1:=aa h1
 clear hev hcg hq hER hTV hGr hS hII hT hB ht hI hm hgm hge hb2 hz h0 h1
 obtain⟨bad,hbd⟩:∃z:Int,z=if ge≠0 then ge else 2:=⟨_,rfl⟩
 have hcase:(¬ge=0)∨(ge=0∧¬il=sl)∨(ge=0∧il=sl∧30<sl):=by
  by_cases h1:ge=0
  ·by_cases h2:il=sl
   ·exact .inr (.inr ⟨h1,h2,by have h3:=HBAD.out;rw[←HGE.out] at h3;by_cases h4:sl≤30;exact absurd ⟨h1,h2,h4⟩ h3;omega⟩)
   ·exact .inr (.inl ⟨h1,h2⟩)
  ·exact .inl h1
 have HERB:Hid (ER=bad):=by
  show ER=bad
  rw[HER.out,hbd]
  rcases hcase with h | ⟨h,h2⟩ | ⟨h,h2,h3⟩
  ·rw[sK h,if_pos h]
  ·rw[h,mD h2,if_neg (by simp)]
  ·rw[h,h2,kL (by omega),if_neg (by simp)]
 have hb0:bad≠0:=by
  rw[hbd]
  split
  ·assumption
  ·decide
 have hb0':(bad != 0)=true:=by simp[hb0]
 have hb0'':(bad==0)=false:=by simp[hb0]
 have HBD:=aa hbd
 clear hbd
 go_enter Tryz.func3,Tryz.ntmps3
 go_upto_region 1 with fail
 generalize ((w.alloc (H #[C na nl nc,C ea el ec,F D next] 25)).alloc (H #[F D k,F D vk,F D vn,G vs,C va vl vc,G nm,C a l c] 33))=W at HB HZ H0 H1 ⊢
 have HG1:Hid (∀u,Below (w.heap.size+2) W u→u.heap[w.heap.size]? = some (H #[C na nl nc,C ea el ec,F D next] 25 (0,0))):=fun u kk=>(kk.block w.heap.size (by omega)).trans H0.out
 have HT1:Hid (∀u,Below (w.heap.size+2) W u→u.heap[w.heap.size+1]? = some (H #[F D k,F D vk,F D vn,G vs,C va vl vc,G nm,C a l c] 33 (0,0))):=fun u kk=>(kk.block (w.heap.size+1) (by omega)).trans H1.out
 have hgb:=HG1.out W (K _ _)
 obtain⟨g0,g1,g2⟩:=cj hgb
 simp at g0 g1 g2
 have hgs:w.heap.size<W.heap.size:=lt_block' hgb
 clear hgb
 have htb:=HT1.out W (K _ _)
 obtain⟨t0,t1,t2,t3,t4,t5,t6⟩:=bV htb
 simp at t0 t1 t2 t3 t4 t5 t6
 have hts:w.heap.size+1<W.heap.size:=lt_block' htb
 clear htb
 go_wp2_with fail
 refine(HEV.out _ HB.out).mono ?_
 clear g0 g1 g2 t0 t1 t2 t3 t4 t5 t6
 rintro e u1 ⟨⟨rk,rn,rs,ra,rl,rc,rfl,hzer,hval⟩,k1⟩
 have HZE:=aa hzer
 have HVA:=aa hval
 have HW1:=aa (af HB.out k1)
 have HX1:Hid (Below (w.heap.size+2) W u1):=k1.mono (by rw[HZ.out];exact M _)
 have hu1:w.heap.size+2≤u1.heap.size:=by have:=k1.size;rw[HZ.out] at this;exact this
 clear hzer hval k1
 have hkx:Below u1.heap.size u1 (u1.alloc (H #[F D rk,F D rn,G rs,C ra rl rc] 30)):=(K _ _).alloc (M _) _
 have HVB:=aa (ae u1 (H #[F D rk,F D rn,G rs,C ra rl rc] 30))
 have HW2:=aa (af HW1.out hkx)
 have HX2:Hid (Below (w.heap.size+2) W (u1.alloc (H #[F D rk,F D rn,G rs,C ra rl rc] 30))):=HX1.out.trans (hkx.mono hu1)
 have HKX:=aa hkx
 have hxz:(u1.alloc (H #[F D rk,F D rn,G rs,C ra rl rc] 30)).heap.size=u1.heap.size+1:=by simp
 clear hkx
 go_upto_region 2 with fail
 generalize u1.alloc (H #[F D rk,F D rn,G rs,C ra rl rc] 30)=X1 at HVB HW2 HX2 HKX hxz ⊢
 have hgb:=HG1.out X1 (HX2.out)
 obtain⟨g0,g1,g2⟩:=cj hgb
 simp at g0 g1 g2
 have hgs:w.heap.size<X1.heap.size:=lt_block' hgb
 clear hgb
 go_wp2_with fail
 refine(HCG.out _ HW2.out).mono ?_
 clear g0 g1 g2
 rintro e u2 ⟨rfl,k2⟩
 have HW3:=aa (af HW2.out k2)
 have HX3:Hid (Below (w.heap.size+2) W u2):=HX2.out.trans (k2.mono (by omega))
 have HV3:Hid (Below (u1.heap.size+1) X1 u2):=k2.mono (by omega)
 have hu2:u1.heap.size+1≤u2.heap.size:=by have:=k2.size;omega
 clear k2
 obtain⟨z1,z2,z3,z4,z5,z6⟩:=HZE.out (by rw[HERB.out];exact hb0)
 subst z1 z2 z3 z4 z5 z6
 have HTD:Hid (∀u,Below w.heap.size w u→Calls Tryz.prog 9 #[] u fun e w'=>e=J (.bool true)∧Below u.heap.size u w'):=fun u ku=>jk (B:=B) u (Nat.le_trans HBB.out ku.size) (HTB.out.below (ku.mono HBB.out))
 have hmm:=@run_makeMap Tryz.prog
 have HM2:Hid (Below u2.heap.size u2 ((u2.alloc (.map #[] 0)).alloc (.map #[] 0))):=((K _ _).alloc (M _) _).alloc (by simp) _
 have HWM:=aa (af HW3.out HM2.out)
 have HVM:Hid (Below (u1.heap.size+1) X1 ((u2.alloc (.map #[] 0)).alloc (.map #[] 0))):=HV3.out.trans (HM2.out.mono hu2)
 have key:(bad=ge∧(ge==0)=false)∨(bad=2∧ge=0∧((sl:Int) != (il:Int))=true)∨(bad=2∧ge=0∧il=sl∧(30:Int)<(sl:Int)):=by
  rcases hcase with h | ⟨h,h2⟩ | ⟨h,h2,h3⟩
  ·exact .inl ⟨by rw[HBD.out,if_pos h],by simp[h]⟩
  ·exact .inr (.inl ⟨by rw[HBD.out,if_neg (by simp[h])],h,by simp;omega⟩)
  ·exact .inr (.inr ⟨by rw[HBD.out,if_neg (by simp[h])],h,h2,by omega⟩)
 clear hcase
 rcases key with⟨e1,c1⟩ | ⟨e1,e2,c1⟩ | ⟨e1,e2,e3,c1⟩
 ·have E1:=aa e1
  clear e1
  go_wp2_with fail
  rw[←E1.out]
  have e1:=E1.out
  clear e1
  generalize (u2.alloc (.map #[] 0)).alloc (.map #[] 0)=X3 at HM2 HWM HVM ⊢
  go_loopg [11,14] 0 (fun q s11 s14 wr=>s11=F D bad∧s14=F D 0∧wr=X3)
  case atStart=>exact⟨rfl,rfl,rfl⟩
  case round=>
   obtain⟨rfl,rfl,rfl⟩:=hrel
   go_wp2_with fail
   refine(HTD.out _ HWM.out).mono ?_
   rintro e u4 ⟨rfl,k4⟩
   have HW4:=aa (af HWM.out k4)
   have HV4:Hid (Below (u1.heap.size+1) X1 u4):=HVM.out.trans (k4.mono (by have:=HVM.out.size;omega))
   clear k4
   go_wp2_with fail
   refine(HTD.out _ HW4.out).mono ?_
   rintro e u5 ⟨rfl,k5⟩
   have HW5:=aa (af HW4.out k5)
   have HV5:Hid (Below (u1.heap.size+1) X1 u5):=HV4.out.trans (k5.mono (by have:=HV4.out.size;omega))
   clear k5
   have hvb:=(HV5.out.block u1.heap.size (by omega)).trans HVB.out
   obtain⟨p0,p1,p2,p3⟩:=ai hvb
   simp at p0 p1 p2 p3
   have hvs:u1.heap.size<u5.heap.size:=lt_block' hvb
   have her:=HERB.out
   have HNZ:=aa (fg u5)
   clear hvb
   go_wp2_with fail
   refine HNZ.out.mono ?_
   rintro e u6 ⟨rfl,k6⟩
   have HW6:=aa (af HW5.out k6)
   clear k6
   go_wp2_with fail
   go_ret
   exact⟨aP rfl,HW6.out⟩
 ·subst e2
  go_wp2_with fail
  rw[←e1]
  clear e1
  generalize (u2.alloc (.map #[] 0)).alloc (.map #[] 0)=X3 at HM2 HWM HVM ⊢
  go_loopg [11,14] 0 (fun q s11 s14 wr=>s11=F D bad∧s14=F D 0∧wr=X3)
  case atStart=>exact⟨rfl,rfl,rfl⟩
  case round=>
   obtain⟨rfl,rfl,rfl⟩:=hrel
   go_wp2_with fail
   refine(HTD.out _ HWM.out).mono ?_
   rintro e u4 ⟨rfl,k4⟩
   have HW4:=aa (af HWM.out k4)
   have HV4:Hid (Below (u1.heap.size+1) X1 u4):=HVM.out.trans (k4.mono (by have:=HVM.out.size;omega))
   clear k4
   go_wp2_with fail
   refine(HTD.out _ HW4.out).mono ?_
   rintro e u5 ⟨rfl,k5⟩
   have HW5:=aa (af HW4.out k5)
   have HV5:Hid (Below (u1.heap.size+1) X1 u5):=HV4.out.trans (k5.mono (by have:=HV4.out.size;omega))
   clear k5
   have hvb:=(HV5.out.block u1.heap.size (by omega)).trans HVB.out
   obtain⟨p0,p1,p2,p3⟩:=ai hvb
   simp at p0 p1 p2 p3
   have hvs:u1.heap.size<u5.heap.size:=lt_block' hvb
   have her:=HERB.out
   have HNZ:=aa (fg u5)
   clear hvb
   go_wp2_with fail
   refine HNZ.out.mono ?_
   rintro e u6 ⟨rfl,k6⟩
   have HW6:=aa (af HW5.out k6)
   clear k6
   go_wp2_with fail
   go_ret
   exact⟨aP rfl,HW6.out⟩
 ·subst e2 e3
  go_wp2_with fail
  rw[←e1]
  clear e1
  generalize (u2.alloc (.map #[] 0)).alloc (.map #[] 0)=X3 at HM2 HWM HVM ⊢
  go_loopg [11,14] 0 (fun q s11 s14 wr=>s11=F D bad∧s14=F D 0∧wr=X3)
  case atStart=>exact⟨rfl,rfl,rfl⟩
  case round=>
   obtain⟨rfl,rfl,rfl⟩:=hrel
   go_wp2_with fail
   refine(HTD.out _ HWM.out).mono ?_
   rintro e u4 ⟨rfl,k4⟩
   have HW4:=aa (af HWM.out k4)
   have HV4:Hid (Below (u1.heap.size+1) X1 u4):=HVM.out.trans (k4.mono (by have:=HVM.out.size;omega))
   clear k4
   go_wp2_with fail
   refine(HTD.out _ HW4.out).mono ?_
   rintro e u5 ⟨rfl,k5⟩
   have HW5:=aa (af HW4.out k5)
   have HV5:Hid (Below (u1.heap.size+1) X1 u5):=HV4.out.trans (k5.mono (by have:=HV4.out.size;omega))
   clear k5
   have hvb:=(HV5.out.block u1.heap.size (by omega)).trans HVB.out
   obtain⟨p0,p1,p2,p3⟩:=ai hvb
   simp at p0 p1 p2 p3
   have hvs:u1.heap.size<u5.heap.size:=lt_block' hvb
   have her:=HERB.out
   have HNZ:=aa (fg u5)
   clear hvb
   go_wp2_with fail
   refine HNZ.out.mono ?_
   rintro e u6 ⟨rfl,k6⟩
   have HW6:=aa (af HW5.out k6)
   clear k6
   go_wp2_with fail
   go_ret
   exact⟨aP rfl,HW6.out⟩
end Go.Proofs.YtijjpoohhgapoaaGreatDoor

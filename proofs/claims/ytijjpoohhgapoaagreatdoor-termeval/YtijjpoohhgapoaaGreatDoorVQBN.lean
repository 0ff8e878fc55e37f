import Derived.Test.YtijjpoohhgapoaaGreatDoorVQBH
import Derived.Test.YtijjpoohhgapoaaGreatDoorVQBI
import Derived.Test.YtijjpoohhgapoaaGreatDoorVQBJ
import Derived.Test.YtijjpoohhgapoaaGreatDoorVQBL
import Derived.Test.YtijjpoohhgapoaaGreatDoorVQBM
namespace Go.Proofs.YtijjpoohhgapoaaGreatDoor
open Go.RowKit
set_option linter.unusedVariables false
set_option maxHeartbeats 4000000
set_option maxRecDepth 100000
open Value renaming string → C, int → F, slice → H, agg → K
open IntKind renaming i64 → D
open Obj renaming cells → I
open Ending renaming returned → J
open Nat renaming lt_of_lt_of_le → L, le_refl → M
open RowKit.Below renaming refl → O
theorem lF {env:ByteArray→Option Th} {d:Nat} {x:Tm} (h:aS env d x) (hk:x.kind=2):∃y,env x.name=some y∧aI env d x=eL y.id:=by
 cases d with
 | zero=>exact h.elim
 | succ d=>
   obtain⟨k,v,nmx,A⟩:=x
   have hk:k=2:=hk
   subst hk
   obtain⟨_,_,_,hs⟩:=mo.1 h
   obtain⟨y,hy⟩:=Option.isSome_iff_exists.1 hs
   refine⟨y,hy,?_⟩
   show eL ((env nmx).getD Th.zero).id=_
   rw[hy]
   rfl
theorem gM {B:Nat} {env:ByteArray→Option Th} {fa:ByteArray→Option Int} {w0:World} {N:List Nd} {E:List Ed} {na:Option Addr} {nl nc:Nat} {ea:Option Addr} {el ec:Nat} {next:Int} {m:Nat} (hB:B≤w0.heap.size) (hT:bD B w0) (hNN:bF w0 N na nl) (hEE:bO w0 E ea el) (hn:cn w0 m fa) (hfa:∀s,fa s=(env s).map Th.id) (he:eK env) (hv:∀s x,env s=some x→Lib.validD x.typ.data.toList=true) (hG:∀s x,env s=some x→ThG w0 N E x) (hun:∀(i j:Nat) (x y:Ed),E[i]? = some x→E[j]? = some y→x.id=y.id→i=j) :
  ∀(d:Nat) (w:World) (k vk vn:Int) (vs:ByteArray) (va:Option Addr) (vl vc:Nat) (nm:ByteArray) (a:Option Addr) (l c:Nat) (Lv:List T) (A:List Tm),Below w0.heap.size w0 w→bd w0 k vk vn vs va vl vc nm a l c Lv A→aS env d (.node k (.node vk vn vs Lv) nm A)→Calls Tryz.prog 12 #[K #[H na nl nc,H ea el ec,F D next],.map (some m),K #[F D k,F D vk,F D vn,C vs,H va vl vc,C nm,H a l c]] w fun e w'=>aL (fun i=>i<w0.heap.size) w w' (aI env d (.node k (.node vk vn vs Lv) nm A)) e∧Below w.heap.size w w'
 | 0,w,k,vk,vn,vs,va,vl,vc,nm,a,l,c,Lv,A,hw,ht,hr=>hr.elim
 | d+1,w,k,vk,vn,vs,va,vl,vc,nm,a,l,c,Lv,A,hw,ht,hr=>by
   have ev:aI env (d+1) (.node k (.node vk vn vs Lv) nm A)=if k=1 then .node vk vn vs Lv else if k=2 then eL ((env nm).getD Th.zero).id else if k=3 then kH env (cR nm) A else fj env A (A.map (aI env d)) (bN nm):=rfl
   rw[ev]
   obtain⟨_,h⟩:=hr
   rcases h with⟨rfl,_⟩ | ⟨rfl,_⟩ | ⟨rfl,_,x,hA,hxk,hx⟩ | ⟨rfl,h30,ha,i,hi,htk,h15,h16⟩
   ·rw[if_pos rfl]
    exact te (env:=env) (fa:=fa) w0 w na nl nc ea el ec next vk vn vs va vl vc nm a l c Lv A m hw ht
   ·rw[if_neg (by decide),if_pos rfl]
    exact vU w0 w na nl nc ea el ec next vk vn vs va vl vc nm a l c Lv A m hw ht hn hfa
   ·rw[if_neg (by decide),if_neg (by decide),if_pos rfl]
    obtain⟨y,hy,_⟩:=lF hx hxk
    exact td w0 w na nl nc ea el ec next vk vn vs va vl vc nm a l c Lv A m hw ht N E hNN hEE hn hfa x hA y hy (hG _ y hy)
   ·rw[if_neg (by decide),if_neg (by decide),if_neg (by decide),hi]
    have IH:∀(xk xvk xvn:Int) (xvs:ByteArray) (xva:Option Addr) (xvl xvc:Nat) (xnm:ByteArray) (xa:Option Addr) (xl xc:Nat) (Lv:List T) (A':List Tm),bd w0 xk xvk xvn xvs xva xvl xvc xnm xa xl xc Lv A'→.node xk (.node xvk xvn xvs Lv) xnm A' ∈ A→∀W,Below w0.heap.size w0 W→Calls Tryz.prog 12 #[K #[H na nl nc,H ea el ec,F D next],.map (some m),K #[F D xk,F D xvk,F D xvn,C xvs,H xva xvl xvc,C xnm,H xa xl xc]] W fun e w'=>aL (fun i=>i<w0.heap.size) W w' (aI env d (.node xk (.node xvk xvn xvs Lv) xnm A')) e∧Below W.heap.size W w':=fun xk xvk xvn xvs xva xvl xvc xnm xa xl xc Lv' A' hta hm W hW=>gM hB hT hNN hEE hn hfa he hv hG hun d W xk xvk xvn xvs xva xvl xvc xnm xa xl xc Lv' A' hW hta (ha _ hm)
    have hck:∀y ∈ A,Ck 6 (aI env d y):=fun y hy=>mL he hv d y (ha y hy)
    have hlt:=ir hi
    have cf:fj env A (A.map (aI env d)) (some i)=if i=16 then kH env (fun x=>.node 3 0 x.typ []) A else opF i (A.map (aI env d)):=rfl
    rw[cf]
    by_cases e16:i=16
    ·subst e16
     rw[if_pos rfl]
     obtain⟨x,r,hA,hxk,hxe⟩:=h16 rfl
     have hr0:r = []:=by
      have:(1:Int)=A.length:=by rcases htk with h | h;exact absurd h (by decide);exact h
      rw[hA] at this
      simp at this
      exact List.length_eq_zero_iff.1 (by omega)
     subst hr0
     obtain⟨y,hy,hev⟩:=lF (ha x (by rw[hA];exact List.mem_cons_self ..)) hxk
     rw[hy] at hxe
     have hxe:y.edge=true:=hxe
     rcases hG _ y hy with⟨h1,_⟩ | ⟨_,_,hin,hnd⟩
     ·rw[h1] at hxe
      cases hxe
     ·have ef:kH env (fun x=>.node 3 0 x.typ []) A = .node 3 0 y.typ []:=by
       rw[hA]
       show T.node 3 0 ((env x.name).getD Th.zero).typ []=_
       rw[hy]
       rfl
      rw[ef]
      exact uz (B:=B) (G:=aI env d) w0 w na nl nc ea el ec next vk vn vs va vl vc nm a l c Lv A m E hEE y.typ y.id (by rw[hA];show[aI env d x]=_;rw[hev]) hin (fun ed hm hid=>(hnd ed hm hid).1) hun (by have:=(he _ y hy).2.1;omega) hw hB hT ht hi htk h30 hck IH
    ·rw[if_neg e16]
     have h17:i=0∨i=1∨i=2∨i=3∨i=4∨i=5∨i=6∨i=7∨i=8∨i=9∨i=10∨i=11∨i=12∨i=13∨i=14∨i=15:=by omega
     rcases h17 with rfl | rfl | rfl | rfl | rfl | rfl | rfl | rfl | rfl | rfl | rfl | rfl | rfl | rfl | rfl | rfl
     ·exact tvC w0 w na nl nc ea el ec next vk vn vs va vl vc nm a l c Lv A m hw hB hT ht 0 43 (.inl ⟨rfl,rfl⟩) hi htk h30 (aI env d) hck IH
     ·exact tvC w0 w na nl nc ea el ec next vk vn vs va vl vc nm a l c Lv A m hw hB hT ht 1 45 (.inr (.inl ⟨rfl,rfl⟩)) hi htk h30 (aI env d) hck IH
     ·exact tvC w0 w na nl nc ea el ec next vk vn vs va vl vc nm a l c Lv A m hw hB hT ht 2 42 (.inr (.inr ⟨rfl,rfl⟩)) hi htk h30 (aI env d) hck IH
     ·exact tvA w0 w na nl nc ea el ec next vk vn vs va vl vc nm a l c Lv A m hw hB hT ht 3 (by decide) hi htk h30 (aI env d) hck IH
     ·exact tvA w0 w na nl nc ea el ec next vk vn vs va vl vc nm a l c Lv A m hw hB hT ht 4 (by decide) hi htk h30 (aI env d) hck IH
     ·exact vV w0 w na nl nc ea el ec next vk vn vs va vl vc nm a l c Lv A m hw hB hT ht hi htk h30 (aI env d) hck IH
     ·exact tvB w0 w na nl nc ea el ec next vk vn vs va vl vc nm a l c Lv A m hw hB hT ht 6 (by decide) hi htk h30 (aI env d) hck IH
     ·exact tvD w0 w na nl nc ea el ec next vk vn vs va vl vc nm a l c Lv A m hw hB hT ht 7 (by decide) hi htk h30 (aI env d) hck IH
     ·exact tvD w0 w na nl nc ea el ec next vk vn vs va vl vc nm a l c Lv A m hw hB hT ht 8 (by decide) hi htk h30 (aI env d) hck IH
     ·exact tvB w0 w na nl nc ea el ec next vk vn vs va vl vc nm a l c Lv A m hw hB hT ht 9 (by decide) hi htk h30 (aI env d) hck IH
     ·exact tvA w0 w na nl nc ea el ec next vk vn vs va vl vc nm a l c Lv A m hw hB hT ht 10 (by decide) hi htk h30 (aI env d) hck IH
     ·exact tvA w0 w na nl nc ea el ec next vk vn vs va vl vc nm a l c Lv A m hw hB hT ht 11 (by decide) hi htk h30 (aI env d) hck IH
     ·exact tvA w0 w na nl nc ea el ec next vk vn vs va vl vc nm a l c Lv A m hw hB hT ht 12 (by decide) hi htk h30 (aI env d) hck IH
     ·exact tvA w0 w na nl nc ea el ec next vk vn vs va vl vc nm a l c Lv A m hw hB hT ht 13 (by decide) hi htk h30 (aI env d) hck IH
     ·exact tvA w0 w na nl nc ea el ec next vk vn vs va vl vc nm a l c Lv A m hw hB hT ht 14 (by decide) hi htk h30 (aI env d) hck IH
     ·exact tvA w0 w na nl nc ea el ec next vk vn vs va vl vc nm a l c Lv A m hw hB hT ht 15 (by decide) hi htk h30 (aI env d) hck IH
theorem tU {B:Nat} {bf:ByteArray→Option Int} {env:ByteArray→Option Th} (hbf:∀s,bf s=(env s).map fun x=>if x.edge=true then 2 else 1) (w0 w:World) (vk vn:Int) (vs:ByteArray) (va:Option Addr) (vl vc:Nat) (nm:ByteArray) (a:Option Addr) (l c:Nat) (Lv:List T) (A:List Tm) (m:Nat) (deep mx:Int) (hw:Below w0.heap.size w0 w) (hB:B≤w0.heap.size) (hT:bD B w0) (ht:bd w0 1 vk vn vs va vl vc nm a l c Lv A) (hn:cn w0 m bf) (hI:InM (.node 1 (.node vk vn vs Lv) nm A)) (hm:w0.cell? ⟨2,0,none⟩=some (F D mx)) (hg:2<w0.heap.size) (hd:0≤deep∧deep≤6):Calls Tryz.prog 8 #[K #[F D 1,F D vk,F D vn,C vs,H va vl vc,C nm,H a l c],.map (some m),F D deep] w fun e w'=>(e=J (F D (g9 nm A (.node vk vn vs Lv))))∧Below w.heap.size w w':=by
 obtain⟨X,hX⟩:∃z,z=g9 nm A (.node vk vn vs Lv):=⟨_,rfl⟩
 rw[←hX]
 have HX:=aa hX
 have HBF:=aa hbf
 have h6:¬(6:Int)<deep:=by omega
 have hwr:IntKind.i64.wrap (deep+1)=deep+1:=by rw[IntKind.wrap_i64];omega
 clear hX hbf
 have hcv:∀W,Below w0.heap.size w0 W→Calls Tryz.prog 22 #[vC vk vn vs va vl vc,F D 1] W fun e w'=>e=J (F D (chk 6 (.node vk vn vs Lv)))∧Below W.heap.size W w':=fun W hW=>(pJ B w0 hB hT 6 0 rfl vk vn vs va vl vc Lv ht.vss (by unfold InM at hI;exact hI.1) ht.val W hW).2
 have HCV:=aa hcv
 clear hcv
 have HAR:=aa ht.args
 have HLEN:=aa ht.args.len.1
 have hmx:=ht.args.len.2
 have HNS:=aa ht.nms
 have HTA:=aa ht
 have HIN:=aa hI
 have HN:=aa hn
 have HT:=aa hT
 have HHB:=aa hB
 have HMX:=aa (show w0.cell? ⟨2,0,none⟩=some (F D mx)∧2<w0.heap.size from⟨hm,hg⟩)
 have HW:=aa hw
 have hb0:Below w.heap.size w (w.alloc (I #[F D 1,F D vk,F D vn,C vs,H va vl vc,C nm,H a l c] 33)):=(O _ _).alloc (M _) _
 have h0:=ae w (I #[F D 1,F D vk,F D vn,C vs,H va vl vc,C nm,H a l c] 33)
 have hz:(w.alloc (I #[F D 1,F D vk,F D vn,C vs,H va vl vc,C nm,H a l c] 33)).heap.size=w.heap.size+1:=by simp
 have HB:=aa hb0
 have H0:=aa h0
 have HZ:=aa hz
 obtain⟨be,hbe⟩:∃z,z=cQ (.node vk vn vs Lv):=⟨_,rfl⟩
 have HE:Hid (∀W,Calls Tryz.prog 11 #[vC vk vn vs va vl vc,K #[F D 0,F D 0,C ⟨#[]⟩,H none 0 0]] W fun e w'=>e=J (.bool be)∧Below W.heap.size W w'):=fun W=>by
  rw[hbe]
  exact e8 vk vn vs va vl vc Lv W ht.val.length.1.symm ht.val.length.2
 have HBE:=aa hbe
 have hmm:=@run_makeMap Tryz.prog
 have HMM:=aa hmm
 clear hb0 h0 hz hbe hw ht hn hI hT hB hm hg hmm
 go_enter Tryz.func8,Tryz.ntmps8
 go_wp2_with fail
 refine(HE.out _).mono ?_
 generalize (w.alloc (I #[F D 1,F D vk,F D vn,C vs,H va vl vc,C nm,H a l c] 33))=W at HB H0 HZ ⊢
 rintro e u1 ⟨rfl,k1⟩
 obtain⟨X1,X2,X3,X4,X5,X6,X7,X8,X9,X10,X11,X12,X13,X14,X15,X16,X17,r0,r1,r2,r3,r4,r5,r6,r7,r8,r9,r10,r11,r12,r13,r14,r15,r16,hbk⟩:=eF u1
 have hx:=hbk.bel
 have k2:Below W.heap.size W X17:=af k1 hx
 have HBB:=aa (af HB.out k2)
 have hw1:Below w0.heap.size w0 X17:=HW.out.trans (HBB.out.mono HW.out.size)
 have HW1:=aa hw1
 have HTK:=aa (eX hbk)
 have h0:=(k2.block w.heap.size (by rw[HZ.out];omega)).trans H0.out
 have HX0:=aa h0
 obtain⟨c0,c1,c2,c3,c4,c5,c6⟩:=bV h0
 simp at c0 c1 c2 c3 c4 c5 c6
 have hsz:w.heap.size<X17.heap.size:=lt_block' h0
 have hmm:=HMM.out
 clear h0 k1 k2 hx hw1 hbk
 by_cases hs:nm=⟨#[]⟩
 ·have hs':=dg
  have HS:=aa hs
  by_cases hl:l=0
  ·have HA:Hid (A.length=0):=by show A.length=0;rw[←HLEN.out];exact hl
   by_cases hv:vk=4
   ·have HX6:Hid (X=6):=HX.out.trans (if_neg fun g=>g.2.2 hv)
    subst hl hs hv
    go_wp2_with fail
    go_ret
    exact⟨ag HX6.out.symm,HBB.out⟩
   ·have HXC:Hid (X=chk 6 (.node vk vn vs Lv)):=HX.out.trans (if_pos ⟨HS.out,HA.out,hv⟩)
    have hv':(vk==4)=false:=by simp[hv]
    subst hl hs
    go_wp2_with fail
    refine(HCV.out _ HW1.out).mono ?_
    rintro e u2 ⟨rfl,k2⟩
    have HB2:=aa (af HBB.out k2)
    clear k2
    go_wp2_with fail
    go_ret
    exact⟨ag HXC.out.symm,HB2.out⟩
  ·have hl':((l:Int) != 0)=true:=by simp;omega
   have HX6:Hid (X=6):=HX.out.trans (if_neg fun g=>hl (by rw[HLEN.out];exact g.2.1))
   subst hs
   go_wp2_with fail
   go_ret
   exact⟨ag HX6.out.symm,HBB.out⟩
 ·have hs':=bp hs
  have HX6:Hid (X=6):=HX.out.trans (if_neg fun g=>hs g.1)
  go_wp2_with fail
  go_ret
  exact⟨ag HX6.out.symm,HBB.out⟩
theorem wu {B:Nat} {bf:ByteArray→Option Int} {env:ByteArray→Option Th} (hbf:∀s,bf s=(env s).map fun x=>if x.edge=true then 2 else 1) (w0 w:World) (vk vn:Int) (vs:ByteArray) (va:Option Addr) (vl vc:Nat) (nm:ByteArray) (a:Option Addr) (l c:Nat) (Lv:List T) (A:List Tm) (m:Nat) (deep mx:Int) (hw:Below w0.heap.size w0 w) (hB:B≤w0.heap.size) (hT:bD B w0) (ht:bd w0 2 vk vn vs va vl vc nm a l c Lv A) (hn:cn w0 m bf) (hI:InM (.node 2 (.node vk vn vs Lv) nm A)) (hm:w0.cell? ⟨2,0,none⟩=some (F D mx)) (hg:2<w0.heap.size) (hd:0≤deep∧deep≤6):Calls Tryz.prog 8 #[K #[F D 2,F D vk,F D vn,C vs,H va vl vc,C nm,H a l c],.map (some m),F D deep] w fun e w'=>(e=J (F D (if cQ (.node vk vn vs Lv)=true then kZ env nm A else 6)))∧Below w.heap.size w w':=by
 obtain⟨X,hX⟩:∃z,z=if cQ (.node vk vn vs Lv)=true then kZ env nm A else 6:=⟨_,rfl⟩
 rw[←hX]
 have HX:=aa hX
 have HBF:=aa hbf
 have h6:¬(6:Int)<deep:=by omega
 have hwr:IntKind.i64.wrap (deep+1)=deep+1:=by rw[IntKind.wrap_i64];omega
 clear hX hbf
 have HAR:=aa ht.args
 have HLEN:=aa ht.args.len.1
 have hmx:=ht.args.len.2
 have HNS:=aa ht.nms
 have HTA:=aa ht
 have HIN:=aa hI
 have HN:=aa hn
 have HT:=aa hT
 have HHB:=aa hB
 have HMX:=aa (show w0.cell? ⟨2,0,none⟩=some (F D mx)∧2<w0.heap.size from⟨hm,hg⟩)
 have HW:=aa hw
 have hb0:Below w.heap.size w (w.alloc (I #[F D 2,F D vk,F D vn,C vs,H va vl vc,C nm,H a l c] 33)):=(O _ _).alloc (M _) _
 have h0:=ae w (I #[F D 2,F D vk,F D vn,C vs,H va vl vc,C nm,H a l c] 33)
 have hz:(w.alloc (I #[F D 2,F D vk,F D vn,C vs,H va vl vc,C nm,H a l c] 33)).heap.size=w.heap.size+1:=by simp
 have HB:=aa hb0
 have H0:=aa h0
 have HZ:=aa hz
 obtain⟨be,hbe⟩:∃z,z=cQ (.node vk vn vs Lv):=⟨_,rfl⟩
 have HE:Hid (∀W,Calls Tryz.prog 11 #[vC vk vn vs va vl vc,K #[F D 0,F D 0,C ⟨#[]⟩,H none 0 0]] W fun e w'=>e=J (.bool be)∧Below W.heap.size W w'):=fun W=>by
  rw[hbe]
  exact e8 vk vn vs va vl vc Lv W ht.val.length.1.symm ht.val.length.2
 have HBE:=aa hbe
 have hmm:=@run_makeMap Tryz.prog
 have HMM:=aa hmm
 clear hb0 h0 hz hbe hw ht hn hI hT hB hm hg hmm
 go_enter Tryz.func8,Tryz.ntmps8
 go_wp2_with fail
 refine(HE.out _).mono ?_
 generalize (w.alloc (I #[F D 2,F D vk,F D vn,C vs,H va vl vc,C nm,H a l c] 33))=W at HB H0 HZ ⊢
 rintro e u1 ⟨rfl,k1⟩
 obtain⟨X1,X2,X3,X4,X5,X6,X7,X8,X9,X10,X11,X12,X13,X14,X15,X16,X17,r0,r1,r2,r3,r4,r5,r6,r7,r8,r9,r10,r11,r12,r13,r14,r15,r16,hbk⟩:=eF u1
 have hx:=hbk.bel
 have k2:Below W.heap.size W X17:=af k1 hx
 have HBB:=aa (af HB.out k2)
 have hw1:Below w0.heap.size w0 X17:=HW.out.trans (HBB.out.mono HW.out.size)
 have HW1:=aa hw1
 have HTK:=aa (eX hbk)
 have h0:=(k2.block w.heap.size (by rw[HZ.out];omega)).trans H0.out
 have HX0:=aa h0
 obtain⟨c0,c1,c2,c3,c4,c5,c6⟩:=bV h0
 simp at c0 c1 c2 c3 c4 c5 c6
 have hsz:w.heap.size<X17.heap.size:=lt_block' h0
 have hmm:=HMM.out
 clear h0 k1 k2 hx hw1 hbk
 cases be with
 | false=>
   have HX6:Hid (X=6):=HX.out.trans (if_neg (by rw[←HBE.out];simp))
   go_wp2_with fail
   go_ret
   exact⟨ag HX6.out.symm,HBB.out⟩
 | true=>
   have HXV:Hid (X=kZ env nm A):=HX.out.trans (if_pos HBE.out.symm)
   by_cases hl:l=0
   ·have HA:Hid (A.length=0):=by show A.length=0;rw[←HLEN.out];exact hl
    subst hl
    have hfr:=pr nm mx X17 HNS.out ((HW1.out.cell (p:=⟨2,0,none⟩) HMX.out.2).trans HMX.out.1) (L HMX.out.2 HW1.out.size)
    have HF:=aa hfr
    clear hfr
    go_wp2_with fail
    refine HF.out.mono ?_
    rintro e u2 ⟨rfl,k2⟩
    have HB2:=aa (af HBB.out k2)
    have hw2:Below w0.heap.size w0 u2:=HW.out.trans (HB2.out.mono HW.out.size)
    have h0:=(k2.block w.heap.size (by omega)).trans HX0.out
    clear c0 c1 c2 c3 c4 c5 c6
    have c5:=ac h0 5
    simp at c5
    have hsz2:w.heap.size<u2.heap.size:=lt_block' h0
    cases hb:cW nm with
    | false=>
      have HX6:Hid (X=6):=HXV.out.trans (if_neg fun g=>by rw[hb] at g;exact absurd g.2 (by simp))
      clear h0 k2 hw2
      go_wp2_with fail
      go_ret
      exact⟨ag HX6.out.symm,HB2.out⟩
    | true=>
      have hlk:=(HN.out.below hw2).look nm
      rw[HBF.out nm] at hlk
      cases hx:env nm with
      | none=>
        rw[hx] at hlk
        have hlk2:(Instr.lookup 38 (.map (some m)) (C nm) false).run Tryz.prog u2 = .ok (F D 0) u2:=hlk
        have HX5:Hid (X=5):=HXV.out.trans ((if_pos ⟨HA.out,hb⟩).trans (if_neg (by rw[hx];simp)))
        clear h0 k2 hw2 hlk hx
        go_wp2_with fail
        go_ret
        exact⟨ag HX5.out.symm,HB2.out⟩
      | some x=>
        rw[hx] at hlk
        obtain⟨q,hq⟩:∃z:Int,z=if x.edge=true then 2 else 1:=⟨_,rfl⟩
        have hlk2:(Instr.lookup 38 (.map (some m)) (C nm) false).run Tryz.prog u2 = .ok (F D q) u2:=by rw[hq];exact hlk
        have hq0:(q==0)=false:=by
         rw[hq]
         split<;>rfl
        have HX00:Hid (X=0):=HXV.out.trans ((if_pos ⟨HA.out,hb⟩).trans (if_pos (by rw[hx];rfl)))
        clear h0 k2 hw2 hlk hx hq
        go_wp2_with fail
        go_ret
        exact⟨ag HX00.out.symm,HB2.out⟩
   ·have hl':((l:Int) != 0)=true:=by simp;omega
    have HX6:Hid (X=6):=HXV.out.trans (if_neg fun g=>hl (by rw[HLEN.out];exact g.1))
    go_wp2_with fail
    go_ret
    exact⟨ag HX6.out.symm,HBB.out⟩
theorem tS {B:Nat} {bf:ByteArray→Option Int} {env:ByteArray→Option Th} (hbf:∀s,bf s=(env s).map fun x=>if x.edge=true then 2 else 1) (w0 w:World) (k vk vn:Int) (vs:ByteArray) (va:Option Addr) (vl vc:Nat) (nm:ByteArray) (a:Option Addr) (l c:Nat) (Lv:List T) (A:List Tm) (m:Nat) (deep mx:Int) (hw:Below w0.heap.size w0 w) (hB:B≤w0.heap.size) (hT:bD B w0) (ht:bd w0 k vk vn vs va vl vc nm a l c Lv A) (hn:cn w0 m bf) (hI:InM (.node k (.node vk vn vs Lv) nm A)) (hm:w0.cell? ⟨2,0,none⟩=some (F D mx)) (hg:2<w0.heap.size) (hd:0≤deep∧deep≤6) (hk1:¬k=1) (hk2:¬k=2) (hk3:¬k=3) (hk4:¬k=4):Calls Tryz.prog 8 #[K #[F D k,F D vk,F D vn,C vs,H va vl vc,C nm,H a l c],.map (some m),F D deep] w fun e w'=>(e=J (F D ((6:Int))))∧Below w.heap.size w w':=by
 obtain⟨X,hX⟩:∃z,z=(6:Int):=⟨_,rfl⟩
 rw[←hX]
 have HX:=aa hX
 have HBF:=aa hbf
 have h6:¬(6:Int)<deep:=by omega
 have hwr:IntKind.i64.wrap (deep+1)=deep+1:=by rw[IntKind.wrap_i64];omega
 clear hX hbf
 have q1:(k==1)=false:=by simp[hk1]
 have q2:(k==2)=false:=by simp[hk2]
 have q3:(k==3)=false:=by simp[hk3]
 have q4:(k==4)=false:=by simp[hk4]
 have HAR:=aa ht.args
 have HLEN:=aa ht.args.len.1
 have hmx:=ht.args.len.2
 have HNS:=aa ht.nms
 have HTA:=aa ht
 have HIN:=aa hI
 have HN:=aa hn
 have HT:=aa hT
 have HHB:=aa hB
 have HMX:=aa (show w0.cell? ⟨2,0,none⟩=some (F D mx)∧2<w0.heap.size from⟨hm,hg⟩)
 have HW:=aa hw
 have hb0:Below w.heap.size w (w.alloc (I #[F D k,F D vk,F D vn,C vs,H va vl vc,C nm,H a l c] 33)):=(O _ _).alloc (M _) _
 have h0:=ae w (I #[F D k,F D vk,F D vn,C vs,H va vl vc,C nm,H a l c] 33)
 have hz:(w.alloc (I #[F D k,F D vk,F D vn,C vs,H va vl vc,C nm,H a l c] 33)).heap.size=w.heap.size+1:=by simp
 have HB:=aa hb0
 have H0:=aa h0
 have HZ:=aa hz
 obtain⟨be,hbe⟩:∃z,z=cQ (.node vk vn vs Lv):=⟨_,rfl⟩
 have HE:Hid (∀W,Calls Tryz.prog 11 #[vC vk vn vs va vl vc,K #[F D 0,F D 0,C ⟨#[]⟩,H none 0 0]] W fun e w'=>e=J (.bool be)∧Below W.heap.size W w'):=fun W=>by
  rw[hbe]
  exact e8 vk vn vs va vl vc Lv W ht.val.length.1.symm ht.val.length.2
 have HBE:=aa hbe
 have hmm:=@run_makeMap Tryz.prog
 have HMM:=aa hmm
 clear hb0 h0 hz hbe hw ht hn hI hT hB hm hg hmm
 go_enter Tryz.func8,Tryz.ntmps8
 go_wp2_with fail
 refine(HE.out _).mono ?_
 generalize (w.alloc (I #[F D k,F D vk,F D vn,C vs,H va vl vc,C nm,H a l c] 33))=W at HB H0 HZ ⊢
 rintro e u1 ⟨rfl,k1⟩
 obtain⟨X1,X2,X3,X4,X5,X6,X7,X8,X9,X10,X11,X12,X13,X14,X15,X16,X17,r0,r1,r2,r3,r4,r5,r6,r7,r8,r9,r10,r11,r12,r13,r14,r15,r16,hbk⟩:=eF u1
 have hx:=hbk.bel
 have k2:Below W.heap.size W X17:=af k1 hx
 have HBB:=aa (af HB.out k2)
 have hw1:Below w0.heap.size w0 X17:=HW.out.trans (HBB.out.mono HW.out.size)
 have HW1:=aa hw1
 have HTK:=aa (eX hbk)
 have h0:=(k2.block w.heap.size (by rw[HZ.out];omega)).trans H0.out
 have HX0:=aa h0
 obtain⟨c0,c1,c2,c3,c4,c5,c6⟩:=bV h0
 simp at c0 c1 c2 c3 c4 c5 c6
 have hsz:w.heap.size<X17.heap.size:=lt_block' h0
 have hmm:=HMM.out
 clear h0 k1 k2 hx hw1 hbk
 go_wp2_with fail
 go_ret
 exact⟨ag HX.out.symm,HBB.out⟩
theorem tT {B:Nat} {bf:ByteArray→Option Int} {env:ByteArray→Option Th} (hbf:∀s,bf s=(env s).map fun x=>if x.edge=true then 2 else 1) {R:Tm→Int} (w0 w:World) (vk vn:Int) (vs:ByteArray) (va:Option Addr) (vl vc:Nat) (nm:ByteArray) (a:Option Addr) (l c:Nat) (Lv:List T) (A:List Tm) (m:Nat) (deep mx:Int) (hw:Below w0.heap.size w0 w) (hB:B≤w0.heap.size) (hT:bD B w0) (ht:bd w0 3 vk vn vs va vl vc nm a l c Lv A) (hn:cn w0 m bf) (hI:InM (.node 3 (.node vk vn vs Lv) nm A)) (hm:w0.cell? ⟨2,0,none⟩=some (F D mx)) (hg:2<w0.heap.size) (hd:0≤deep∧deep≤6) (IH:∀(xk xvk xvn:Int) (xvs:ByteArray) (xva:Option Addr) (xvl xvc:Nat) (xnm:ByteArray) (xa:Option Addr) (xl xc:Nat) (Lv:List T) (A':List Tm),bd w0 xk xvk xvn xvs xva xvl xvc xnm xa xl xc Lv A'→.node xk (.node xvk xvn xvs Lv) xnm A' ∈ A→∀W,Below w0.heap.size w0 W→Calls Tryz.prog 8 #[K #[F D xk,F D xvk,F D xvn,C xvs,H xva xvl xvc,C xnm,H xa xl xc],.map (some m),F D (deep+1)] W fun e w'=>(e=J (F D (R (.node xk (.node xvk xvn xvs Lv) xnm A'))))∧Below W.heap.size W w'):Calls Tryz.prog 8 #[K #[F D 3,F D vk,F D vn,C vs,H va vl vc,C nm,H a l c],.map (some m),F D deep] w fun e w'=>(e=J (F D (if cQ (.node vk vn vs Lv)=true then fy R nm A else 6)))∧Below w.heap.size w w':=by
 obtain⟨X,hX⟩:∃z,z=if cQ (.node vk vn vs Lv)=true then fy R nm A else 6:=⟨_,rfl⟩
 rw[←hX]
 have HX:=aa hX
 have HBF:=aa hbf
 have h6:¬(6:Int)<deep:=by omega
 have hwr:IntKind.i64.wrap (deep+1)=deep+1:=by rw[IntKind.wrap_i64];omega
 clear hX hbf
 have HIH:=aa IH
 clear IH
 have HAR:=aa ht.args
 have HLEN:=aa ht.args.len.1
 have hmx:=ht.args.len.2
 have HNS:=aa ht.nms
 have HTA:=aa ht
 have HIN:=aa hI
 have HN:=aa hn
 have HT:=aa hT
 have HHB:=aa hB
 have HMX:=aa (show w0.cell? ⟨2,0,none⟩=some (F D mx)∧2<w0.heap.size from⟨hm,hg⟩)
 have HW:=aa hw
 have hb0:Below w.heap.size w (w.alloc (I #[F D 3,F D vk,F D vn,C vs,H va vl vc,C nm,H a l c] 33)):=(O _ _).alloc (M _) _
 have h0:=ae w (I #[F D 3,F D vk,F D vn,C vs,H va vl vc,C nm,H a l c] 33)
 have hz:(w.alloc (I #[F D 3,F D vk,F D vn,C vs,H va vl vc,C nm,H a l c] 33)).heap.size=w.heap.size+1:=by simp
 have HB:=aa hb0
 have H0:=aa h0
 have HZ:=aa hz
 obtain⟨be,hbe⟩:∃z,z=cQ (.node vk vn vs Lv):=⟨_,rfl⟩
 have HE:Hid (∀W,Calls Tryz.prog 11 #[vC vk vn vs va vl vc,K #[F D 0,F D 0,C ⟨#[]⟩,H none 0 0]] W fun e w'=>e=J (.bool be)∧Below W.heap.size W w'):=fun W=>by
  rw[hbe]
  exact e8 vk vn vs va vl vc Lv W ht.val.length.1.symm ht.val.length.2
 have HBE:=aa hbe
 have hmm:=@run_makeMap Tryz.prog
 have HMM:=aa hmm
 clear hb0 h0 hz hbe hw ht hn hI hT hB hm hg hmm
 go_enter Tryz.func8,Tryz.ntmps8
 go_wp2_with fail
 refine(HE.out _).mono ?_
 generalize (w.alloc (I #[F D 3,F D vk,F D vn,C vs,H va vl vc,C nm,H a l c] 33))=W at HB H0 HZ ⊢
 rintro e u1 ⟨rfl,k1⟩
 obtain⟨X1,X2,X3,X4,X5,X6,X7,X8,X9,X10,X11,X12,X13,X14,X15,X16,X17,r0,r1,r2,r3,r4,r5,r6,r7,r8,r9,r10,r11,r12,r13,r14,r15,r16,hbk⟩:=eF u1
 have hx:=hbk.bel
 have k2:Below W.heap.size W X17:=af k1 hx
 have HBB:=aa (af HB.out k2)
 have hw1:Below w0.heap.size w0 X17:=HW.out.trans (HBB.out.mono HW.out.size)
 have HW1:=aa hw1
 have HTK:=aa (eX hbk)
 have h0:=(k2.block w.heap.size (by rw[HZ.out];omega)).trans H0.out
 have HX0:=aa h0
 obtain⟨c0,c1,c2,c3,c4,c5,c6⟩:=bV h0
 simp at c0 c1 c2 c3 c4 c5 c6
 have hsz:w.heap.size<X17.heap.size:=lt_block' h0
 have hmm:=HMM.out
 clear h0 k1 k2 hx hw1 hbk
 cases be with
 | false=>
   have HX6:Hid (X=6):=HX.out.trans (if_neg (by rw[←HBE.out];simp))
   go_wp2_with fail
   go_ret
   exact⟨ag HX6.out.symm,HBB.out⟩
 | true=>
   have HXV:Hid (X=fy R nm A):=HX.out.trans (if_pos HBE.out.symm)
   by_cases hl:l=1
   ·subst hl
    obtain⟨b,off,xk,xvk,xvn,xvs,xva,xvl,xvc,xnm,xa,xl,xc,Lv',A',ha,hbl,hd',⟨e0,e1,e2,e3,e4,e5,e6⟩,hta⟩:=HAR.out.at (i:=0) (by omega)
    rw[Nat.zero_mul,Nat.add_zero] at e0 e1 e2 e3 e4 e5 e6
    subst ha
    have HA:Hid (A = [.node xk (.node xvk xvn xvs Lv') xnm A']):=by
     have e:A = .node xk (.node xvk xvn xvs Lv') xnm A'::A.drop 1:=by simpa using hd'
     have h1:A.drop 1 = []:=List.drop_eq_nil_of_le (by have:=HLEN.out;omega)
     rw[h1] at e
     exact e
    have HC:=aa (HIH.out xk xvk xvn xvs xva xvl xvc xnm xa xl xc Lv' A' hta (by rw[HA.out];exact List.mem_cons_self ..))
    have HEE:=aa (show w0.cell? ⟨b,off,none⟩=some (F D xk)∧w0.cell? ⟨b,off+1,none⟩=some (F D xvk)∧w0.cell? ⟨b,off+2,none⟩=some (F D xvn)∧w0.cell? ⟨b,off+3,none⟩=some (C xvs)∧w0.cell? ⟨b,off+4,none⟩=some (H xva xvl xvc)∧w0.cell? ⟨b,off+5,none⟩=some (C xnm)∧w0.cell? ⟨b,off+6,none⟩=some (H xa xl xc) from⟨e0,e1,e2,e3,e4,e5,e6⟩)
    have d0:(X17).cell? ⟨b,off,none⟩=some (F D xk):=(HW1.out.cell (p:=⟨b,off,none⟩) hbl).trans e0
    have d1:(X17).cell? ⟨b,off+1,none⟩=some (F D xvk):=(HW1.out.cell (p:=⟨b,off+1,none⟩) hbl).trans e1
    have d2:(X17).cell? ⟨b,off+2,none⟩=some (F D xvn):=(HW1.out.cell (p:=⟨b,off+2,none⟩) hbl).trans e2
    have d3:(X17).cell? ⟨b,off+3,none⟩=some (C xvs):=(HW1.out.cell (p:=⟨b,off+3,none⟩) hbl).trans e3
    have d4:(X17).cell? ⟨b,off+4,none⟩=some (H xva xvl xvc):=(HW1.out.cell (p:=⟨b,off+4,none⟩) hbl).trans e4
    have d5:(X17).cell? ⟨b,off+5,none⟩=some (C xnm):=(HW1.out.cell (p:=⟨b,off+5,none⟩) hbl).trans e5
    have d6:(X17).cell? ⟨b,off+6,none⟩=some (H xa xl xc):=(HW1.out.cell (p:=⟨b,off+6,none⟩) hbl).trans e6
    have hbW:b<X17.heap.size:=L hbl HW1.out.size
    clear e0 e1 e2 e3 e4 e5 e6 hta hd'
    by_cases hk:xk=2
    ·subst hk
     have HNM:=aa (dT nm X17 HNS.out)
     go_wp2_with fail
     refine HNM.out.mono ?_
     rintro e u2 ⟨rfl,k2⟩
     clear c0 c1 c2 c3 c4 c5 c6 d0 d1 d2 d3 d4 d5 d6 hbW
     have HB2:=aa (af HBB.out k2)
     have hw2:Below w0.heap.size w0 u2:=HW.out.trans (HB2.out.mono HW.out.size)
     have h0:=(k2.block w.heap.size (by omega)).trans HX0.out
     have c6:=ac h0 6
     simp at c6
     have hsz2:w.heap.size<u2.heap.size:=lt_block' h0
     cases hb:Go.Proofs.YtijjpoohhgapoaaGreatDoor.nm nm with
     | false=>
       have HX6:Hid (X=6):=by
        refine HXV.out.trans ?_
        rw[HA.out]
        exact if_neg fun g=>by rw[hb] at g;exact absurd g.2 (by simp)
       clear h0 k2 hw2
       go_wp2_with fail
       go_ret
       exact⟨ag HX6.out.symm,HB2.out⟩
     | true=>
       obtain⟨e0,e1,e2,e3,e4,e5,e6⟩:=HEE.out
       have d0:(u2).cell? ⟨b,off,none⟩=some (F D 2):=(hw2.cell (p:=⟨b,off,none⟩) hbl).trans e0
       have d1:(u2).cell? ⟨b,off+1,none⟩=some (F D xvk):=(hw2.cell (p:=⟨b,off+1,none⟩) hbl).trans e1
       have d2:(u2).cell? ⟨b,off+2,none⟩=some (F D xvn):=(hw2.cell (p:=⟨b,off+2,none⟩) hbl).trans e2
       have d3:(u2).cell? ⟨b,off+3,none⟩=some (C xvs):=(hw2.cell (p:=⟨b,off+3,none⟩) hbl).trans e3
       have d4:(u2).cell? ⟨b,off+4,none⟩=some (H xva xvl xvc):=(hw2.cell (p:=⟨b,off+4,none⟩) hbl).trans e4
       have d5:(u2).cell? ⟨b,off+5,none⟩=some (C xnm):=(hw2.cell (p:=⟨b,off+5,none⟩) hbl).trans e5
       have d6:(u2).cell? ⟨b,off+6,none⟩=some (H xa xl xc):=(hw2.cell (p:=⟨b,off+6,none⟩) hbl).trans e6
       have hbW:b<u2.heap.size:=L hbl hw2.size
       have HW2:=aa hw2
       have HXR:Hid (X=R (.node 2 (.node xvk xvn xvs Lv') xnm A')):=by
        refine HXV.out.trans ?_
        rw[HA.out]
        exact if_pos ⟨rfl,hb⟩
       clear h0 k2 hw2 e0 e1 e2 e3 e4 e5 e6
       go_wp2_with fail
       refine(HC.out _ HW2.out).mono ?_
       rintro e u3 ⟨rfl,k3⟩
       have HB3:=aa (af HB2.out k3)
       clear k3
       go_wp2_with fail
       go_ret
       exact⟨ag HXR.out.symm,HB3.out⟩
    ·have hk':(xk != 2)=true:=by simp[hk]
     have HX6:Hid (X=6):=by
      refine HXV.out.trans ?_
      rw[HA.out]
      exact if_neg fun g=>hk g.1
     go_wp2_with fail
     go_ret
     exact⟨ag HX6.out.symm,HBB.out⟩
   ·have hl':((l:Int) != 1)=true:=by simp;omega
    have HX6:Hid (X=6):=by
     refine HXV.out.trans ?_
     unfold fy
     split
     ·exact absurd HLEN.out hl
     ·rfl
    go_wp2_with fail
    go_ret
    exact⟨ag HX6.out.symm,HBB.out⟩
end Go.Proofs.YtijjpoohhgapoaaGreatDoor

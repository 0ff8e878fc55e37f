import Derived.Test.YtijjpoohhgapoaaGreatDoorVQBN
namespace Go.Proofs.YtijjpoohhgapoaaGreatDoor
open Go.RowKit
set_option linter.unusedVariables false
set_option maxHeartbeats 4000000
set_option maxRecDepth 100000
set_option linter.unusedSimpArgs false
open Value renaming string → C, int → F, slice → G, agg → M, tuple → Q
open IntKind renaming i64 → D
open Ending renaming returned → J
open Obj renaming cells → K
open Nat renaming lt_of_lt_of_le → O, zero_mul → P, le_refl → U
theorem sN {env:ByteArray→Option Th} {bf:ByteArray→Option Int} {nm:ByteArray} {q:Int} {xk:Int} {v:T} {A:List Tm} (hb:bf nm=(env nm).map fun x=>if x.edge=true then 2 else 1) (hq:q=(bf nm).getD 0) (hk:xk=2) (h:q=2):ck env (Tm.node xk v nm A).kind (Tm.node xk v nm A).name=true:=by
 have he:((env nm).getD Th.zero).edge=true:=by
  rw[hb] at hq
  cases hx:env nm with
  | none=>rw[hx] at hq;have:q=0:=hq;omega
  | some x=>
    rw[hx] at hq
    have hq:q=if x.edge=true then 2 else 1:=hq
    show x.edge=true
    cases hh:x.edge with
    | true=>rfl
    | false=>rw[hh] at hq;have:q=1:=hq;omega
 simp[ck,Tm.kind,Tm.name,hk,he]
theorem tL {env:ByteArray→Option Th} {bf:ByteArray→Option Int} {nm:ByteArray} {q:Int} {xk:Int} {v:T} {A:List Tm} (hb:bf nm=(env nm).map fun x=>if x.edge=true then 2 else 1) (hq:q=(bf nm).getD 0) (h:¬q=2):ck env (Tm.node xk v nm A).kind (Tm.node xk v nm A).name=false:=by
 have he:((env nm).getD Th.zero).edge=false:=by
  rw[hb] at hq
  cases hx:env nm with
  | none=>rfl
  | some x=>
    rw[hx] at hq
    have hq:q=if x.edge=true then 2 else 1:=hq
    show x.edge=false
    cases hh:x.edge with
    | false=>rfl
    | true=>rw[hh] at hq;exact absurd hq h
 simp[ck,Tm.name,he]
theorem vm {B:Nat} {bf:ByteArray→Option Int} {env:ByteArray→Option Th} (hbf:∀s,bf s=(env s).map fun x=>if x.edge=true then 2 else 1) {R:Tm→Int} (w0 w:World) (vk vn:Int) (vs:ByteArray) (va:Option Addr) (vl vc:Nat) (nm:ByteArray) (a:Option Addr) (l c:Nat) (Lv:List T) (A:List Tm) (m:Nat) (deep mx:Int) (hw:Below w0.heap.size w0 w) (hB:B≤w0.heap.size) (hT:bD B w0) (ht:bd w0 4 vk vn vs va vl vc nm a l c Lv A) (hn:cn w0 m bf) (hI:InM (.node 4 (.node vk vn vs Lv) nm A)) (hm:w0.cell? ⟨2,0,none⟩=some (F D mx)) (hg:2<w0.heap.size) (hd:0≤deep∧deep≤6) (IH:∀(xk xvk xvn:Int) (xvs:ByteArray) (xva:Option Addr) (xvl xvc:Nat) (xnm:ByteArray) (xa:Option Addr) (xl xc:Nat) (Lv:List T) (A':List Tm),bd w0 xk xvk xvn xvs xva xvl xvc xnm xa xl xc Lv A'→.node xk (.node xvk xvn xvs Lv) xnm A' ∈ A→∀W,Below w0.heap.size w0 W→Calls Tryz.prog 8 #[M #[F D xk,F D xvk,F D xvn,C xvs,G xva xvl xvc,C xnm,G xa xl xc],.map (some m),F D (deep+1)] W fun e w'=>(e=J (F D (R (.node xk (.node xvk xvn xvs Lv) xnm A'))))∧Below W.heap.size W w'):Calls Tryz.prog 8 #[M #[F D 4,F D vk,F D vn,C vs,G va vl vc,C nm,G a l c],.map (some m),F D deep] w fun e w'=>(e=J (F D (if cQ (.node vk vn vs Lv)=true then iJ env R A (bN nm) else 6)))∧Below w.heap.size w w':=by
 obtain⟨X,hX⟩:∃z,z=if cQ (.node vk vn vs Lv)=true then iJ env R A (bN nm) else 6:=⟨_,rfl⟩
 rw[←hX]
 have HX:=aa hX
 have HBF:=aa hbf
 have h6:¬(6:Int)<deep:=by omega
 have hwr:IntKind.i64.wrap (deep+1)=deep+1:=by rw[IntKind.wrap_i64];omega
 clear hX hbf
 have HIH:=aa IH
 clear IH
 have HAR:=aa ht.args
 have HLEN:=aa ht.args.len.1
 have hmx:=ht.args.len.2
 have HNS:=aa ht.nms
 have HTA:=aa ht
 have HIN:=aa hI
 have HN:=aa hn
 have HT:=aa hT
 have HHB:=aa hB
 have HMX:=aa (show w0.cell? ⟨2,0,none⟩=some (F D mx)∧2<w0.heap.size from⟨hm,hg⟩)
 have HW:=aa hw
 have hb0:Below w.heap.size w (w.alloc (K #[F D 4,F D vk,F D vn,C vs,G va vl vc,C nm,G a l c] 33)):=(Below.refl _ _).alloc (U _) _
 have h0:=ae w (K #[F D 4,F D vk,F D vn,C vs,G va vl vc,C nm,G a l c] 33)
 have hz:(w.alloc (K #[F D 4,F D vk,F D vn,C vs,G va vl vc,C nm,G a l c] 33)).heap.size=w.heap.size+1:=by simp
 have HB:=aa hb0
 have H0:=aa h0
 have HZ:=aa hz
 obtain⟨be,hbe⟩:∃z,z=cQ (.node vk vn vs Lv):=⟨_,rfl⟩
 have HE:Hid (∀W,Calls Tryz.prog 11 #[vC vk vn vs va vl vc,M #[F D 0,F D 0,C ⟨#[]⟩,G none 0 0]] W fun e w'=>e=J (.bool be)∧Below W.heap.size W w'):=fun W=>by
  rw[hbe]
  exact e8 vk vn vs va vl vc Lv W ht.val.length.1.symm ht.val.length.2
 have HBE:=aa hbe
 have hmm:=@run_makeMap Tryz.prog
 have HMM:=aa hmm
 clear hb0 h0 hz hbe hw ht hn hI hT hB hm hg hmm
 go_enter Tryz.func8,Tryz.ntmps8
 go_wp2_with fail
 refine(HE.out _).mono ?_
 generalize (w.alloc (K #[F D 4,F D vk,F D vn,C vs,G va vl vc,C nm,G a l c] 33))=W at HB H0 HZ ⊢
 rintro e u1 ⟨rfl,k1⟩
 obtain⟨X1,X2,X3,X4,X5,X6,X7,X8,X9,X10,X11,X12,X13,X14,X15,X16,X17,r0,r1,r2,r3,r4,r5,r6,r7,r8,r9,r10,r11,r12,r13,r14,r15,r16,hbk⟩:=eF u1
 have hx:=hbk.bel
 have k2:Below W.heap.size W X17:=af k1 hx
 have HBB:=aa (af HB.out k2)
 have hw1:Below w0.heap.size w0 X17:=HW.out.trans (HBB.out.mono HW.out.size)
 have HW1:=aa hw1
 have HTK:=aa (eX hbk)
 have h0:=(k2.block w.heap.size (by rw[HZ.out];omega)).trans H0.out
 have HX0:=aa h0
 obtain⟨c0,c1,c2,c3,c4,c5,c6⟩:=bV h0
 simp at c0 c1 c2 c3 c4 c5 c6
 have hsz:w.heap.size<X17.heap.size:=lt_block' h0
 have hmm:=HMM.out
 clear h0 k1 k2 hx hw1 hbk
 have hlk:=HTK.out.look nm
 cases be with
 | false=>
   have HX6:Hid (X=6):=HX.out.trans (if_neg (by rw[←HBE.out];simp))
   obtain⟨tk,htk⟩:∃z,z=((bN nm).map an).getD 0:=⟨_,rfl⟩
   rw[←htk] at hlk
   clear htk
   go_wp2_with fail
   go_ret
   exact⟨ag HX6.out.symm,HBB.out⟩
 | true=>
   have HXV:Hid (X=iJ env R A (bN nm)):=HX.out.trans (if_pos HBE.out.symm)
   cases ho:bN nm with
   | none=>
     rw[ho] at hlk
     have hlk2:(Instr.lookup 38 (.map (some u1.heap.size)) (C nm) false).run Tryz.prog X17 = .ok (F D 0) X17:=hlk
     have HX6:Hid (X=6):=HXV.out.trans (by rw[ho];rfl)
     clear hlk
     go_wp2_with fail
     go_ret
     exact⟨ag HX6.out.symm,HBB.out⟩
   | some o=>
     rw[ho] at hlk
     obtain⟨tk,htk⟩:∃z,z=an o:=⟨_,rfl⟩
     have hlk2:(Instr.lookup 38 (.map (some u1.heap.size)) (C nm) false).run Tryz.prog X17 = .ok (F D tk) X17:=by rw[htk];exact hlk
     have HO:=aa ho
     have HTO:=aa htk
     have htk3:tk = -1∨0<tk:=by
      rw[htk]
      unfold an
      split
      ·exact .inl rfl
      ·split
       ·exact .inr (by decide)
       ·exact .inr (by decide)
     have hn0:(tk==0)=false:=by simp;omega
     clear hlk ho htk
     have key:(¬(0:Int)<tk∧tk = -1)∨((0:Int)<tk∧((l:Int) != tk)=false∧tk=l)∨((0:Int)<tk∧((l:Int) != tk)=true∧¬(tk = -1∨tk=l)):=by
      rcases htk3 with h | h
      ·exact .inl ⟨by omega,h⟩
      ·by_cases e:tk=l
       ·exact .inr (.inl ⟨h,by simp;omega,e⟩)
       ·exact .inr (.inr ⟨h,by simp;omega,by omega⟩)
     have HKEY:=aa key
     clear key htk3
     by_cases hc:tk = -1∨tk=l
     ·have HC1:Hid (an o = -1∨an o=A.length):=by
       have h1:=HTO.out
       have h2:=HLEN.out
       show _∨_
       omega
      have HCC:=aa hc
      have key:(¬(0:Int)<tk)∨((0:Int)<tk∧((l:Int) != tk)=false):=by
       rcases HKEY.out with h | h | h
       ·exact .inl h.1
       ·exact .inr ⟨h.1,h.2.1⟩
       ·exact absurd hc h.2.2
      clear hc
      by_cases h30:l≤30
      ·have hl30:¬(30:Int)<l:=by omega
       rcases key with hn1 | ⟨hn1,hn2⟩
       all_goals
        go_wp2_with fail
        clear r0 r1 r2 r3 r4 r5 r6 r7 r8 r9 r10 r11 r12 r13 r14 r15 r16 hmm hlk2 c0 c1 c2 c3 c4 c5 c6
        generalize X17=W1 at HBB HX0 HW1 HTK hsz ⊢
        go_loopg [126] l (fun q s126 wr=>∃(i:Nat),i≤l∧l-i≤q∧s126=F D i∧Below W1.heap.size W1 wr∧∀x ∈ A.take i,R x=0)
        case atStart=>exact⟨0,Nat.zero_le _,by omega,rfl,Below.refl _ _,fun x hx=>by simp at hx⟩
        case round=>
         obtain⟨i,hi,hg,rfl,hbw,hall⟩:=hrel
         have HALL:=aa hall
         have hw0:Below w.heap.size w wr:=af HBB.out hbw
         have hw00:Below w0.heap.size w0 wr:=HW.out.trans (hw0.mono HW.out.size)
         clear hall
         by_cases hlt:i<l
         ·obtain⟨b,off,xk,xvk,xvn,xvs,xva,xvl,xvc,xnm,xa,xl,xc,Lv',A',ha,hbl,hd',⟨e0,e1,e2,e3,e4,e5,e6⟩,hta⟩:=HAR.out.at (i:=i) hlt
          have HC:=aa (HIH.out xk xvk xvn xvs xva xvl xvc xnm xa xl xc Lv' A' hta (List.mem_of_mem_drop (i:=i) (by rw[hd'];exact List.mem_cons_self ..)))
          have HTK2:Hid (A.take (i+1)=A.take i ++ [.node xk (.node xvk xvn xvs Lv') xnm A']):=by
           have e:A[i]? = some (.node xk (.node xvk xvn xvs Lv') xnm A'):=by
            have:=List.getElem?_drop (xs:=A) (i:=i) (j:=0)
            rw[hd'] at this
            simpa using this.symm
           show A.take (i+1)=_
           rw[List.take_add_one,e]
           rfl
          subst ha
          have q2:∀o,wr.cell? ⟨b,o,none⟩=w0.cell? ⟨b,o,none⟩:=fun o=>hw00.cell (p:=⟨b,o,none⟩) hbl
          have d0:=(q2 _).trans e0
          have d1:=(q2 _).trans e1
          have d2:=(q2 _).trans e2
          have d3:=(q2 _).trans e3
          have d4:=(q2 _).trans e4
          have d5:=(q2 _).trans e5
          have d6:=(q2 _).trans e6
          have hil:(i:Int)<l:=by omega
          have hbW:b<wr.heap.size:=O hbl hw00.size
          have HBX:=aa (show Below W1.heap.size W1 (wr.alloc (K #[F D xk,F D xvk,F D xvn,C xvs,G xva xvl xvc,C xnm,G xa xl xc] 33)) from hbw.alloc hbw.size _)
          have HW0X:=aa (show Below w0.heap.size w0 (wr.alloc (K #[F D xk,F D xvk,F D xvn,C xvs,G xva xvl xvc,C xnm,G xa xl xc] 33)) from hw00.alloc hw00.size _)
          have HBW:=aa (show Below w.heap.size w (wr.alloc (K #[F D xk,F D xvk,F D xvn,C xvs,G xva xvl xvc,C xnm,G xa xl xc] 33)) from hw0.alloc hw0.size _)
          clear e0 e1 e2 e3 e4 e5 e6 q2 hd' hta hbw hw0 hw00
          go_wp2_with fail
          refine(HC.out _ HW0X.out).mono ?_
          clear d0 d1 d2 d3 d4 d5 d6
          rintro e u2 ⟨rfl,k1⟩
          obtain⟨r,hr⟩:∃z,z=R (.node xk (.node xvk xvn xvs Lv') xnm A'):=⟨_,rfl⟩
          rw[←hr]
          have HB1:=aa (af HBX.out k1)
          have HB2:=aa (af HBW.out k1)
          have HR:=aa hr
          clear hr k1
          by_cases hr0:r=0
          ·subst hr0
           go_wp2_with fail
           go_roundg (l-(i+1))
           case measure=>omega
           case rel=>exact⟨i+1,by omega,by omega,by go_num,HB1.out,fun x hx=>by
            rw[HTK2.out] at hx
            rcases List.mem_append.1 hx with h | h
            ·exact HALL.out x h
            ·rw[List.mem_singleton.1 h]
             exact HR.out.symm⟩
          ·have hr':(r != 0)=true:=by simp[hr0]
           have HXR:Hid (X=r):=HXV.out.trans (by rw[HO.out];exact l7 HC1.out (by rw[←HLEN.out];exact h30) HALL.out HTK2.out (by rw[←HLEN.out];exact hlt) HR.out hr0)
           go_wp2_with fail
           go_ret
           exact⟨ag HXR.out.symm,HB2.out⟩
         ·have hil:¬(i:Int)<l:=by omega
          have HALL2:Hid (∀x ∈ A,R x=0):=fun x hx=>HALL.out x (by rw[List.take_of_length_le (by have:=HLEN.out;omega)];exact hx)
          have HXL:Hid (X=gN env o A):=HXV.out.trans (by rw[HO.out];exact dV HC1.out (by rw[←HLEN.out];exact h30) HALL2.out)
          have h0:=(hbw.block w.heap.size (by omega)).trans HX0.out
          have c5:=ac h0 5
          have c6:=ac h0 6
          simp at c5 c6
          have hsz:w.heap.size<wr.heap.size:=lt_block' h0
          have HBW:=aa hw0
          have HW0:=aa hw00
          clear h0 hbw hw0 hw00
          rcases mt HO.out with⟨rfl,hm1,hm2⟩ | ⟨rfl,hm1,hm2⟩ | ⟨ho1,ho2,hm1,hm2⟩
          ·have hl1:l=1:=by have h:=HCC.out;rw[HTO.out,show an 15=1 from by decide] at h;omega
           obtain⟨b,off,xk,xvk,xvn,xvs,xva,xvl,xvc,xnm,xa,xl,xc,Lv',A',ha,hbl,hd',⟨e0,e1,e2,e3,e4,e5,e6⟩,hta⟩:=HAR.out.at (i:=0) (by omega)
           rw[P,Nat.add_zero] at e0 e1 e2 e3 e4 e5 e6
           subst ha
           have HA:Hid (A = .node xk (.node xvk xvn xvs Lv') xnm A'::A.drop 1):=by show _=_;simpa using hd'
           have d0:(wr).cell? ⟨b,off,none⟩=some (F D xk):=(HW0.out.cell (p:=⟨b,off,none⟩) hbl).trans e0
           have d1:(wr).cell? ⟨b,off+1,none⟩=some (F D xvk):=(HW0.out.cell (p:=⟨b,off+1,none⟩) hbl).trans e1
           have d2:(wr).cell? ⟨b,off+2,none⟩=some (F D xvn):=(HW0.out.cell (p:=⟨b,off+2,none⟩) hbl).trans e2
           have d3:(wr).cell? ⟨b,off+3,none⟩=some (C xvs):=(HW0.out.cell (p:=⟨b,off+3,none⟩) hbl).trans e3
           have d4:(wr).cell? ⟨b,off+4,none⟩=some (G xva xvl xvc):=(HW0.out.cell (p:=⟨b,off+4,none⟩) hbl).trans e4
           have d5:(wr).cell? ⟨b,off+5,none⟩=some (C xnm):=(HW0.out.cell (p:=⟨b,off+5,none⟩) hbl).trans e5
           have d6:(wr).cell? ⟨b,off+6,none⟩=some (G xa xl xc):=(HW0.out.cell (p:=⟨b,off+6,none⟩) hbl).trans e6
           have hbW:b<wr.heap.size:=O hbl HW0.out.size
           clear e0 e1 e2 e3 e4 e5 e6 hd' hta
           by_cases hk:xk=2
           ·have HX00:Hid (X=0):=HXL.out.trans (by rw[HA.out];exact nY hk)
            subst hk
            go_wp2_with fail
            go_ret
            exact⟨ag HX00.out.symm,HBW.out⟩
           ·have hk':(xk != 2)=true:=by simp[hk]
            have HX3:Hid (X=3):=HXL.out.trans (by rw[HA.out];exact lQ hk)
            go_wp2_with fail
            go_ret
            exact⟨ag HX3.out.symm,HBW.out⟩
          ·have hl1:l=1:=by have h:=HCC.out;rw[HTO.out,show an 16=1 from by decide] at h;omega
           obtain⟨b,off,xk,xvk,xvn,xvs,xva,xvl,xvc,xnm,xa,xl,xc,Lv',A',ha,hbl,hd',⟨e0,e1,e2,e3,e4,e5,e6⟩,hta⟩:=HAR.out.at (i:=0) (by omega)
           rw[P,Nat.add_zero] at e0 e1 e2 e3 e4 e5 e6
           subst ha
           have HA:Hid (A = .node xk (.node xvk xvn xvs Lv') xnm A'::A.drop 1):=by show _=_;simpa using hd'
           have d0:(wr).cell? ⟨b,off,none⟩=some (F D xk):=(HW0.out.cell (p:=⟨b,off,none⟩) hbl).trans e0
           have d1:(wr).cell? ⟨b,off+1,none⟩=some (F D xvk):=(HW0.out.cell (p:=⟨b,off+1,none⟩) hbl).trans e1
           have d2:(wr).cell? ⟨b,off+2,none⟩=some (F D xvn):=(HW0.out.cell (p:=⟨b,off+2,none⟩) hbl).trans e2
           have d3:(wr).cell? ⟨b,off+3,none⟩=some (C xvs):=(HW0.out.cell (p:=⟨b,off+3,none⟩) hbl).trans e3
           have d4:(wr).cell? ⟨b,off+4,none⟩=some (G xva xvl xvc):=(HW0.out.cell (p:=⟨b,off+4,none⟩) hbl).trans e4
           have d5:(wr).cell? ⟨b,off+5,none⟩=some (C xnm):=(HW0.out.cell (p:=⟨b,off+5,none⟩) hbl).trans e5
           have d6:(wr).cell? ⟨b,off+6,none⟩=some (G xa xl xc):=(HW0.out.cell (p:=⟨b,off+6,none⟩) hbl).trans e6
           have hbW:b<wr.heap.size:=O hbl HW0.out.size
           clear e0 e1 e2 e3 e4 e5 e6 hd' hta
           have hlk:=(HN.out.below HW0.out).look xnm
           obtain⟨q,hq⟩:∃z,z=(bf xnm).getD 0:=⟨_,rfl⟩
           rw[←hq] at hlk
           have HQ:=aa hq
           clear hq
           by_cases hk:xk=2
           ·by_cases hq2:q=2
            ·have HX00:Hid (X=0):=HXL.out.trans (by rw[HA.out];exact nX (sN (HBF.out xnm) HQ.out hk hq2))
             subst hk hq2
             go_wp2_with fail
             go_ret
             exact⟨ag HX00.out.symm,HBW.out⟩
            ·have hq':(q != 2)=true:=by simp[hq2]
             have HX3:Hid (X=3):=HXL.out.trans (by rw[HA.out];exact i8 (tL (HBF.out xnm) HQ.out hq2))
             subst hk
             go_wp2_with fail
             go_ret
             exact⟨ag HX3.out.symm,HBW.out⟩
           ·have hk':(xk != 2)=true:=by simp[hk]
            have HX3:Hid (X=3):=HXL.out.trans (by rw[HA.out];exact i8 (by simp[ck,Tm.kind,hk]))
            go_wp2_with fail
            go_ret
            exact⟨ag HX3.out.symm,HBW.out⟩
          ·have HX00:Hid (X=0):=HXL.out.trans (kl ho1 ho2 A)
           go_wp2_with fail
           go_ret
           exact⟨ag HX00.out.symm,HBW.out⟩
      ·have hl30:(30:Int)<l:=by omega
       have HX2:Hid (X=2):=HXV.out.trans (by rw[HO.out];show(if _ then (if _ then _ else _) else _)=_;rw[if_pos HC1.out,if_pos (by rw[←HLEN.out];omega)])
       rcases key with hn1 | ⟨hn1,hn2⟩
       all_goals
        go_wp2_with fail
        go_ret
        exact⟨ag HX2.out.symm,HBB.out⟩
     ·obtain⟨hn1,hn2⟩:(0:Int)<tk∧((l:Int) != tk)=true:=by
       rcases HKEY.out with h | h | h
       ·exact absurd (.inl h.2) hc
       ·exact absurd (.inr h.2.2) hc
       ·exact⟨h.1,h.2.1⟩
      have HX6:Hid (X=6):=HXV.out.trans (by rw[HO.out];exact if_neg (by rw[←HTO.out,←HLEN.out];exact hc))
      clear hc
      go_wp2_with fail
      go_ret
      exact⟨ag HX6.out.symm,HBB.out⟩
theorem vj (vk vn k:Int) (vs:ByteArray) (va:Option Addr) (vl vc:Nat) (nm:ByteArray) (a:Option Addr) (l c m:Nat) (w:World):Calls Tryz.prog 8 #[M #[F D k,F D vk,F D vn,C vs,G va vl vc,C nm,G a l c],.map (some m),F D 7] w fun e w'=>(e=J (F D 2))∧Below w.heap.size w w':=by
 have hb0:Below w.heap.size w (w.alloc (K #[F D k,F D vk,F D vn,C vs,G va vl vc,C nm,G a l c] 33)):=(Below.refl _ _).alloc (U _) _
 have HB:=aa hb0
 clear hb0
 go_enter Tryz.func8,Tryz.ntmps8
 go_wp2_with fail
 go_ret
 exact⟨rfl,HB.out⟩
theorem gQ {B:Nat} {bf:ByteArray→Option Int} {env:ByteArray→Option Th} (hbf:∀s,bf s=(env s).map fun x=>if x.edge=true then 2 else 1):∀(d:Nat) (w0 w:World) (k vk vn:Int) (vs:ByteArray) (va:Option Addr) (vl vc:Nat) (nm:ByteArray) (a:Option Addr) (l c:Nat) (Lv:List T) (A:List Tm) (m:Nat) (deep mx:Int) (hw:Below w0.heap.size w0 w) (hB:B≤w0.heap.size) (hT:bD B w0) (ht:bd w0 k vk vn vs va vl vc nm a l c Lv A) (hn:cn w0 m bf) (hI:InM (.node k (.node vk vn vs Lv) nm A)) (hm:w0.cell? ⟨2,0,none⟩=some (F D mx)) (hg:2<w0.heap.size) (hd:d≤6) (hdd:deep=7-(d:Int)),Calls Tryz.prog 8 #[M #[F D k,F D vk,F D vn,C vs,G va vl vc,C nm,G a l c],.map (some m),F D deep] w fun e w'=>(e=J (F D (bi env d (.node k (.node vk vn vs Lv) nm A))))∧Below w.heap.size w w'
 | 0,w0,w,k,vk,vn,vs,va,vl,vc,nm,a,l,c,Lv,A,m,deep,mx,hw,hB,hT,ht,hn,hI,hm,hg,hd,hdd=>by
   have:deep=7:=by simpa using hdd
   subst this
   exact vj vk vn k vs va vl vc nm a l c m w
 | d+1,w0,w,k,vk,vn,vs,va,vl,vc,nm,a,l,c,Lv,A,m,deep,mx,hw,hB,hT,ht,hn,hI,hm,hg,hd,hdd=>by
   have IH:∀(xk xvk xvn:Int) (xvs:ByteArray) (xva:Option Addr) (xvl xvc:Nat) (xnm:ByteArray) (xa:Option Addr) (xl xc:Nat) (Lv:List T) (A':List Tm),bd w0 xk xvk xvn xvs xva xvl xvc xnm xa xl xc Lv A'→.node xk (.node xvk xvn xvs Lv) xnm A' ∈ A→∀W,Below w0.heap.size w0 W→Calls Tryz.prog 8 #[M #[F D xk,F D xvk,F D xvn,C xvs,G xva xvl xvc,C xnm,G xa xl xc],.map (some m),F D (deep+1)] W fun e w'=>(e=J (F D (bi env d (.node xk (.node xvk xvn xvs Lv) xnm A'))))∧Below W.heap.size W w':=fun xk xvk xvn xvs xva xvl xvc xnm xa xl xc Lv' A' hta hmem W hW=>gQ hbf d w0 W xk xvk xvn xvs xva xvl xvc xnm xa xl xc Lv' A' m (deep+1) mx hW hB hT hta hn (by have:=hI;unfold InM at this;exact this.2.mem hmem) hm hg (by omega) (by omega)
   have hdp:0≤deep∧deep≤6:=by omega
   by_cases hk1:k=1
   ·subst hk1
    rw[jU]
    exact tU hbf w0 w vk vn vs va vl vc nm a l c Lv A m deep mx hw hB hT ht hn hI hm hg hdp
   by_cases hk2:k=2
   ·subst hk2
    have:=wu hbf w0 w vk vn vs va vl vc nm a l c Lv A m deep mx hw hB hT ht hn hI hm hg hdp
    by_cases hv:(.node vk vn vs Lv:T)=aw
    ·rw[jT hv]
     rw[if_pos ((bT _).2 hv)] at this
     exact this
    ·rw[dA (by decide) hv]
     rw[if_neg (by rw[bT];exact hv)] at this
     exact this
   by_cases hk3:k=3
   ·subst hk3
    have:=tT hbf w0 w vk vn vs va vl vc nm a l c Lv A m deep mx hw hB hT ht hn hI hm hg hdp IH
    by_cases hv:(.node vk vn vs Lv:T)=aw
    ·rw[jS hv]
     rw[if_pos ((bT _).2 hv)] at this
     exact this
    ·rw[dA (by decide) hv]
     rw[if_neg (by rw[bT];exact hv)] at this
     exact this
   by_cases hk4:k=4
   ·subst hk4
    have:=vm hbf w0 w vk vn vs va vl vc nm a l c Lv A m deep mx hw hB hT ht hn hI hm hg hdp IH
    by_cases hv:(.node vk vn vs Lv:T)=aw
    ·rw[jR hv]
     rw[if_pos ((bT _).2 hv)] at this
     exact this
    ·rw[dA (by decide) hv]
     rw[if_neg (by rw[bT];exact hv)] at this
     exact this
   rw[jQ hk1 hk2 hk3 hk4]
   exact tS hbf w0 w k vk vn vs va vl vc nm a l c Lv A m deep mx hw hB hT ht hn hI hm hg hdp hk1 hk2 hk3 hk4
theorem wE {B:Nat} {w0:World} {N:List Nd} {E:List Ed} {na:Option Addr} {nl:Nat} {ea:Option Addr} {el:Nat} (h:iN w0 N E na nl ea el) (nc ec:Nat) (next:Int) {S:List ByteArray} {sa:Option Addr} {sl:Nat} (sc:Nat) {I:List Int} {ia:Option Addr} {il:Nat} (ic:Nat) (hS:cD w0 S sa sl) (hII:dH w0 I ia il) (hB:B≤w0.heap.size) (hT:bD B w0):∃(env:ByteArray→Option Th) (OKG:Prop),(OKG→eK env)∧∀(w1:World),Below w0.heap.size w0 w1→∀(k vk vn:Int) (vs:ByteArray) (va:Option Addr) (vl vc:Nat) (nm:ByteArray) (a:Option Addr) (l c:Nat) (Lv:List T) (A:List Tm),bd w1 k vk vn vs va vl vc nm a l c Lv A→InM (.node k (.node vk vn vs Lv) nm A)→∀W,Below w1.heap.size w1 W →
  Calls Tryz.prog 4 #[M #[G na nl nc,G ea el ec,F D next],G sa sl sc,G ia il ic,M #[F D k,F D vk,F D vn,C vs,G va vl vc,C nm,G a l c]] W fun e w'=>uv W (OKG∧aS env 6 (.node k (.node vk vn vs Lv) nm A)) (aI env 6 (.node k (.node vk vn vs Lv) nm A)) e w'∧Below W.heap.size W w':=by
 have key:∃q,(gE N E next=0→(bl N E S I []).1=0→aA (fQ w0) (bl N E S I []).2 q)∧(gE N E next=0→eK (aO q)):=by
  by_cases hg:gE N E next=0
  ·obtain⟨q,h1,h2⟩:=vf h hg S I
   exact⟨q,fun _ _=>h1,fun _=>h2⟩
  ·exact⟨[],fun hh=>absurd hh hg,fun hh=>absurd hh hg⟩
 obtain⟨q,hq,he⟩:=key
 refine⟨aO q,gE N E next=0∧il=sl∧sl≤30∧(bl N E S I []).1=0,fun hh=>he hh.1,fun w1 k1 k vk vn vs va vl vc nm a l c Lv A ht hI W kW=>?_⟩
 have hbase:∀W,Below w1.heap.size w1 W→Below w0.heap.size w0 W:=fun W k=>k1.trans (k.mono k1.size)
 have main:=kK (B:=B) w1 W na nl nc ea el ec next sa sl sc ia il ic k vk vn vs va vl vc nm a l c Lv A (gE N E next) (bl N E S I []) q kW (Nat.le_trans hB k1.size) (hT.below (k1.mono hB)) ht hI
  (fun V kV=>oy h nc ec next V (hbase V kV))
  (fun hg hl _ V kV=>by
    have hR:=n7 hg
    have h1:=h.1.1
    have h2:=h.2.1.1
    have f1:=hR.fewN
    have f2:=hR.fewE
    exact iK w0 V N E na nl nc ea el ec next S sa sl sc I ia il ic (hbase V kV) h.1 h.2.1 (by omega) (by omega) hR.riseN hR.riseE hS hII hl)
  (fun hg hb=>(hq hg hb).mono fun p x _ _ hp=>⟨hp.1,hp.2.below k1⟩)
  (fun hg _=>he hg) hS.2.1
 refine dm main fun e w' hh=>⟨?_,hh.2⟩
 obtain⟨er,rk,rn,rs,ra,rl,rc,g1,g2,g3⟩:=hh.1
 have iff:(gE N E next=0∧il=sl∧sl≤30∧(bl N E S I []).1=0∧aS (aO q) 6 (.node k (.node vk vn vs Lv) nm A)) ↔ ((gE N E next=0∧il=sl∧sl≤30∧(bl N E S I []).1=0)∧aS (aO q) 6 (.node k (.node vk vn vs Lv) nm A)):=⟨fun⟨a1,a2,a3,a4,a5⟩=>⟨⟨a1,a2,a3,a4⟩,a5⟩,fun⟨⟨a1,a2,a3,a4⟩,a5⟩=>⟨a1,a2,a3,a4,a5⟩⟩
 exact⟨er,rk,rn,rs,ra,rl,rc,g1,g2.trans iff,fun hh=>g3 (iff.2 hh)⟩
theorem qu:Tryz.prog.cellsOf 33=7:=by kernel_rfl
theorem tY:Tryz.prog.cellsOf 31=1:=by kernel_rfl
theorem wJ {cs:List Value} (h:cs.length=7):∃c0 c1 c2 c3 c4 c5 c6,cs = [c0,c1,c2,c3,c4,c5,c6]:=by
 match cs,h with
 | [c0,c1,c2,c3,c4,c5,c6],_=>exact⟨c0,c1,c2,c3,c4,c5,c6,rfl⟩
section
variable {H:Type} {enc:TypeId × Value→H} {w:World} {base:Nat} {spare:Nat→Bool} {aH:Bool}
theorem lv {fuel:Nat} {cs:List Value} {x:DataW H × List MemPlace} (h:DataW.trod enc Tryz.prog w base spare aH fuel 33 cs=some x) :
  ∃k vk vn vs va vl vc nmx a l c m y m2 y2,cs = [F D k,F D vk,F D vn,C vs,G va vl vc,C nmx,G a l c]∧(Lit.int .i64 vn).wf=true∧vs.size≤maxLen∧nmx.size≤maxLen∧fuel=m+1∧DataW.trod enc Tryz.prog w base spare aH m2 28 [G va vl vc]=some y2∧DataW.trod enc Tryz.prog w base spare aH m 31 [G a l c]=some y:=by
 obtain⟨xs,m,rfl,rfl,hlen,hxs,hf⟩:=DataW.trod_struct Tryz.underlying33 h
 rw[qu] at hlen
 obtain⟨c0,c1,c2,c3,c4,c5,c6,rfl⟩:=wJ hlen
 have f0:DataW.trod enc Tryz.prog w base spare aH m 3 (([c0,c1,c2,c3,c4,c5,c6].drop 0).take (Tryz.prog.cellsOf 3))=xs[0]?:=hf 0 _ rfl
 have f1:DataW.trod enc Tryz.prog w base spare aH m 30 (([c0,c1,c2,c3,c4,c5,c6].drop 1).take (Tryz.prog.cellsOf 30))=xs[1]?:=hf 1 _ rfl
 have f2:DataW.trod enc Tryz.prog w base spare aH m 9 (([c0,c1,c2,c3,c4,c5,c6].drop 5).take (Tryz.prog.cellsOf 9))=xs[2]?:=hf 2 _ rfl
 have f3:DataW.trod enc Tryz.prog w base spare aH m 31 (([c0,c1,c2,c3,c4,c5,c6].drop 6).take (Tryz.prog.cellsOf 31))=xs[3]?:=hf 3 _ rfl
 have hx:xs.length=4:=hxs
 obtain⟨y0,hy0⟩:∃y,xs[0]? = some y:=⟨xs[0],by simp[hx]⟩
 obtain⟨y1,hy1⟩:∃y,xs[1]? = some y:=⟨xs[1],by simp[hx]⟩
 obtain⟨y2,hy2⟩:∃y,xs[2]? = some y:=⟨xs[2],by simp[hx]⟩
 obtain⟨y3,hy3⟩:∃y,xs[3]? = some y:=⟨xs[3],by simp[hx]⟩
 rw[hy0,eR] at f0
 rw[hy1,mO] at f1
 rw[hy2,iI] at f2
 rw[hy3,tY] at f3
 have g0:DataW.trod enc Tryz.prog w base spare aH m 3 [c0]=some y0:=f0
 have g1:DataW.trod enc Tryz.prog w base spare aH m 30 [c1,c2,c3,c4]=some y1:=f1
 have g2:DataW.trod enc Tryz.prog w base spare aH m 9 [c5]=some y2:=f2
 have g3:DataW.trod enc Tryz.prog w base spare aH m 31 [c6]=some y3:=f3
 obtain⟨k,e0,_,wk⟩:=DataW.trod_int Tryz.underlying3 g0
 obtain⟨vk,vn,vs,va,vl,vc,m',y,e1,wk',wn',hs,_,hy⟩:=gX g1
 obtain⟨s,e2,_,ws⟩:=DataW.trod_string Tryz.underlying9 g2
 obtain⟨a,l,c,rfl⟩:=dO Tryz.underlying31 g3
 simp only[List.cons.injEq,and_true] at e0 e1 e2
 obtain⟨rfl,rfl,rfl,rfl⟩:=e1
 subst e0 e2
 exact⟨k,vk,vn,vs,va,vl,vc,s,a,l,c,m,y3,m',y,rfl,wn',hs,ws,rfl,hy,g3⟩
theorem rL:∀(fuel:Nat) {a:Option Addr} {l c:Nat} {y:DataW H × List MemPlace},DataW.trod enc Tryz.prog w base spare aH fuel 31 [G a l c]=some y→l≤c∧∃L,aW w L a l∧gr L:=by
 have hm:maxLen≤9223372036854775807:=by unfold maxLen;decide
 intro fuel
 induction fuel using Nat.strongRecOn with
 | _ fuel ih=>
 intro a l c y h
 rcases DataW.trod_slice Tryz.underlying31 h with⟨e,rfl⟩ | ⟨a',l',c',elems,rest,m,hfu,e,rfl,_,h1,h2,hlen,hel,_⟩
 ·simp at e
  obtain⟨_,rfl,_⟩:=e
  exact⟨Nat.zero_le _,[],by unfold aW;rfl,by unfold gr;trivial⟩
 ·simp at e
  obtain⟨rfl,rfl,rfl⟩:=e
  refine⟨h1,?_⟩
  have one:∀i,i<l→∃(t:Tm) (cs:List Value),cs.length=7∧(∀j v,cs[j]? = some v→w.cell? ((a'.add (i*7)).add j)=some v)∧InM t∧∀b off,(∀j v,cs[j]? = some v→w.cell? ⟨b,off+j,none⟩=some v)→ek w t b off:=by
   intro i hi
   have hi2:=hel i hi
   obtain⟨z,hz⟩:∃z,elems[i]? = some z:=⟨elems[i],by simp[hlen,hi]⟩
   rw[hz,qu,Option.bind_eq_some_iff] at hi2
   obtain⟨cs,hcs,ht⟩:=hi2
   obtain⟨q1,q2⟩:=l6 hcs
   obtain⟨k,vk,vn,vs,va,vl,vc,nmx,a2,l2,c2,m3,y3,m4,y4,rfl,wn,hvs,hns,hfm,hv,hA⟩:=lv ht
   obtain⟨hlc,L2,hL2,hI2⟩:=ih m3 (by omega) hA
   obtain⟨hvlc,Lv,hLv,hIv⟩:=mc m4 hv
   have hn:-9223372036854775808≤vn∧vn≤9223372036854775807:=by simpa[Lit.wf,IntKind.min,IntKind.max,IntKind.signed,IntKind.bits] using wn
   refine⟨.node k (.node vk vn vs Lv) nmx L2,_,q1,q2,?_,fun b off hc=>?_⟩
   ·unfold InM InT
    exact⟨⟨hn,hIv⟩,hI2⟩
   ·unfold ek
    refine⟨by omega,hc 0 _ rfl,?_,hc 5 _ rfl,a2,l2,c2,hc 6 _ rfl,hlc,hL2⟩
    unfold bY
    exact⟨by omega,va,vl,vc,hc 1 _ rfl,hc 2 _ rfl,hc 3 _ rfl,hc 4 _ rfl,hvlc,hLv⟩
  by_cases h0:l=0
  ·subst h0
   exact⟨[],by unfold aW;rfl,by unfold gr;trivial⟩
  ·obtain⟨b,off,sp⟩:=a'
   have hsp:sp=none∧b<w.heap.size:=by
    obtain⟨t,cs,q1,q2,_⟩:=one 0 (by omega)
    have q0:=q2 0 cs[0] (by simp)
    rw[P,add_zero,add_zero] at q0
    exact iS q0
   obtain⟨rfl,hb⟩:=hsp
   simp only[d9] at one
   have all:∀j,j≤l→∃ts:List Tm,ts.length=j∧aW w ts (some ⟨b,off+(l-j)*7,none⟩) j∧gr ts:=by
    intro j
    induction j with
    | zero=>
      intro _
      exact⟨[],rfl,by unfold aW;rfl,by unfold gr;trivial⟩
    | succ j ihj=>
      intro hj
      obtain⟨ts,hl,hts,hw⟩:=ihj (by omega)
      obtain⟨t,cs,q1,q2,hIt,hlie⟩:=one (l-(j+1)) (by omega)
      refine⟨t::ts,by simp[hl],?_,?_⟩
      ·unfold aW
       refine⟨b,_,rfl,by omega,by omega,hb,hlie b _ q2,?_⟩
       rw[show off+(l-(j+1))*7+7=off+(l-j)*7 from by omega,hl]
       exact hts
      ·unfold gr
       exact⟨hIt,hw⟩
   obtain⟨ts,hl,hts,hw⟩:=all l (U _)
   rw[Nat.sub_self,P,Nat.add_zero] at hts
   exact⟨ts,hts,hw⟩
theorem tf {fuel:Nat} {cs:List Value} {x:DataW H × List MemPlace} (h:DataW.trod enc Tryz.prog w base spare aH fuel 33 cs=some x) :
  ∃k vk vn vs va vl vc nmx a l c Lv A,cs=mC k vk vn vs va vl vc nmx a l c∧bd w k vk vn vs va vl vc nmx a l c Lv A∧InM (.node k (.node vk vn vs Lv) nmx A):=by
 have hm:maxLen≤9223372036854775807:=by unfold maxLen;decide
 obtain⟨k,vk,vn,vs,va,vl,vc,nmx,a,l,c,m3,y3,m4,y4,rfl,wn,hvs,hns,hfm,hv,hA⟩:=lv h
 obtain⟨hlc,A,hL2,hI2⟩:=rL m3 hA
 obtain⟨hvlc,Lv,hLv,hIv⟩:=mc m4 hv
 have hn:-9223372036854775808≤vn∧vn≤9223372036854775807:=by simpa[Lit.wf,IntKind.min,IntKind.max,IntKind.signed,IntKind.bits] using wn
 refine⟨k,vk,vn,vs,va,vl,vc,nmx,a,l,c,Lv,A,rfl,⟨by omega,by omega,hvlc,hLv,hlc,hL2⟩,?_⟩
 unfold InM InT
 exact⟨⟨hn,hIv⟩,hI2⟩
end
theorem bd.lies {w:World} {k vk vn:Int} {vs:ByteArray} {va:Option Addr} {vl vc:Nat} {nmx:ByteArray} {a:Option Addr} {l c:Nat} {Lv:List T} {A:List Tm} (h:bd w k vk vn vs va vl vc nmx a l c Lv A) {g off:Nat} (hc:∀j v,(mC k vk vn vs va vl vc nmx a l c)[j]? = some v→w.cell? ⟨g,off+j,none⟩=some v):ek w (.node k (.node vk vn vs Lv) nmx A) g off:=by
 unfold ek
 refine⟨h.nms,hc 0 _ rfl,?_,hc 5 _ rfl,a,l,c,hc 6 _ rfl,h.lc,h.args⟩
 unfold bY
 exact⟨h.vss,va,vl,vc,hc 1 _ rfl,hc 2 _ rfl,hc 3 _ rfl,hc 4 _ rfl,h.vlc,h.val⟩
theorem sS {w:World} {t:Tm} {g:Nat} (hg:g<w.heap.size) (h:ek w t g 0):aW w [t] (some ⟨g,0,none⟩) 1:=by
 unfold aW
 refine⟨g,0,rfl,rfl,by omega,hg,h,?_⟩
 unfold aW
 rfl
theorem sR {w:World} {t u:Tm} {g:Nat} (hg:g<w.heap.size) (h:ek w t g 0) (h2:ek w u g 7):aW w [t,u] (some ⟨g,0,none⟩) 2:=by
 unfold aW
 refine⟨g,0,rfl,rfl,by omega,hg,h,?_⟩
 unfold aW
 refine⟨g,7,rfl,rfl,by simp,hg,h2,?_⟩
 unfold aW
 rfl
def oA (nmx:ByteArray) (A:List Tm):Tm:=.node 4 aw nmx A
theorem wF {w:World} {nmx:ByteArray} {A:List Tm} {a:Option Addr} {l c:Nat} (hn:nmx.size≤9223372036854775807) (hl:l≤c) (h:aW w A a l):bd w 4 0 0 ⟨#[]⟩ none 0 0 nmx a l c [] A:=⟨hn,by decide,U _,by unfold am;rfl,hl,h⟩
theorem wv {nmx:ByteArray} {A:List Tm} (h:gr A):InM (oA nmx A):=by
 unfold oA InM aw InT InL
 exact⟨⟨⟨by decide,by decide⟩,trivial⟩,h⟩
theorem ur {env:ByteArray→Option Th} {d:Nat} {nmx:ByteArray} {A:List Tm} {o:Nat} (ho:bN nmx=some o) (h15:o<15) (ht:an o = -1∨an o=A.length) (h30:A.length≤30):aS env (d+1) (oA nmx A) ↔ ∀x ∈ A,aS env d x:=by
 unfold oA
 rw[mn]
 constructor
 ·rintro⟨_,_,h,_⟩
  exact h
 ·intro h
  exact⟨rfl,h30,h,o,ho,ht,fun e=>by omega,fun e=>by omega⟩
theorem vp {env:ByteArray→Option Th} {d:Nat} {nmx:ByteArray} {A:List Tm} {o:Nat} (ho:bN nmx=some o) (h15:o<15):aI env (d+1) (oA nmx A)=opF o (A.map (aI env d)):=by
 show(if (4:Int)=1 then aw else if (4:Int)=2 then eL ((env nmx).getD Th.zero).id else if (4:Int)=3 then kH env (cR nmx) A else fj env A (A.map (aI env d)) (bN nmx))=_
 rw[if_neg (by decide),if_neg (by decide),if_neg (by decide),ho]
 unfold fj
 exact if_neg (by omega)
theorem fB {t:T} (h:Cw 6 t):t = .node 1 0 ⟨#[]⟩ []∨t = .node 1 1 ⟨#[]⟩ []∨t = .node 0 0 ⟨#[]⟩ []∨∃k n s L,t = .node k n s L∧k≠0∧k≠1:=by
 cases h with
 | null=>exact .inr (.inr (.inl rfl))
 | bool _ n h=>
   rcases h with rfl | rfl
   ·exact .inl rfl
   ·exact .inr (.inl rfl)
 | int n=>exact .inr (.inr (.inr ⟨_,_,_,_,rfl,by decide,by decide⟩))
 | text s=>exact .inr (.inr (.inr ⟨_,_,_,_,rfl,by decide,by decide⟩))
 | list L=>exact .inr (.inr (.inr ⟨_,_,_,_,rfl,by decide,by decide⟩))
theorem uT {x y:T} (hx:Cw 6 x) (hy:Cw 6 y):cG (bG 0 [x,y])=bG 1 [cG x,cG y]:=by
 rcases fB hx with rfl | rfl | rfl | ⟨k,n,s,L,rfl,h0,h1⟩<;>rcases fB hy with rfl | rfl | rfl | ⟨k',n',s',L',rfl,h0',h1'⟩<;>simp[bG,bA,cG,ei,aw, *]
theorem vM {x y:T} (hx:Cw 6 x) (hy:Cw 6 y):bG 1 [x,y]=bG 1 [y,x]:=by
 rcases fB hx with rfl | rfl | rfl | ⟨k,n,s,L,rfl,h0,h1⟩<;>rcases fB hy with rfl | rfl | rfl | ⟨k',n',s',L',rfl,h0',h1'⟩<;>simp[bG,bA,cG,ei,aw, *]
theorem ui {x y:T} (hx:Cw 6 x) (hy:Cw 6 y):fJ (ej [x,y])=bG 0 [fJ x,fJ y]:=by
 rcases fB hx with rfl | rfl | rfl | ⟨k,n,s,L,rfl,h0,h1⟩<;>rcases fB hy with rfl | rfl | rfl | ⟨k',n',s',L',rfl,h0',h1'⟩<;>simp[bG,bA,ej,fJ,ei,aw, *]
theorem uA {x:T} (hx:Cw 6 x):(∀n s L,x = .node 1 n s L→cG (cG x)=x)∧(∀k n s L,x = .node k n s L→k≠1→cG (cG x)=aw):=by
 constructor
 ·intro n s L e
  rcases fB hx with rfl | rfl | rfl | ⟨k,n',s',L',rfl,h0,h1⟩
  ·rfl
  ·rfl
  ·injection e with e;exact absurd e (by decide)
  ·injection e with e;exact absurd e h1
 ·intro k n s L e hk
  subst e
  simp[cG,aw,hk]
theorem vS (x y z:T) (h:eI [y,z]≠aw):mZ x (eI [y,z])=bG 1 [cq x y,cq x z]:=by
 have e:eI [y,z] = .node 4 0 ⟨#[]⟩ [y,z]:=by
  unfold eI at h ⊢
  split
  ·rfl
  ·rename_i hn
   rw[if_neg hn] at h
   exact absurd rfl h
 rw[e]
 rfl
def TR (x y z:Int):Prop:=(x≤0→y≤0→z≤0)∧(x<0→y≤0→z<0)∧(x≤0→y<0→z<0)∧(x=0→y=0→z=0)
theorem uP {p1 p2 p3 q1 q2 q3:Int} (h:TR p1 p2 p3) (k:TR q1 q2 q3):TR (lex p1 q1) (lex p2 q2) (lex p3 q3):=by
 obtain⟨a1,a2,a3,a4⟩:=h
 obtain⟨b1,b2,b3,b4⟩:=k
 unfold lex
 refine⟨?_,?_,?_,?_⟩<;>intro x y<;>split at x<;>split at y<;>split<;>omega
theorem iv (p q:Int):lex (-p) (-q) = - lex p q:=by
 unfold lex
 by_cases h:p=0
 ·simp[h]
 ·have h2:¬ -p=0:=by omega
  simp[h,h2]
theorem kO (a b:Int):dx b a = - dx a b:=by
 unfold dx
 repeat' split<;>first | rfl | omega
theorem tQ (a b c:Int):TR (dx a b) (dx b c) (dx a c):=by
 unfold TR dx
 repeat' split<;>first | omega | skip
theorem kP:∀x y:List UInt8,dL y x = - dL x y
 | [],[]=>rfl
 | [],_::_=>rfl
 | _::_,[]=>rfl
 | a::x,b::y=>by unfold dL;rw[kO,kP x y,iv]
theorem mJ:∀x y z:List UInt8,TR (dL x y) (dL y z) (dL x z)
 | [],[],[]=>by simp[dL,TR]
 | [],[],_::_=>by simp[dL,TR]
 | [],_::_,[]=>by simp[dL,TR]
 | [],_::_,_::_=>by simp[dL,TR]
 | _::_,[],[]=>by simp[dL,TR]
 | _::_,[],_::_=>by simp[dL,TR]
 | _::_,_::_,[]=>by simp[dL,TR]
 | a::x,b::y,c::z=>by unfold dL;exact uP (tQ _ _ _) (mJ x y z)
theorem rE {a b:ByteArray} (h:a.toList=b.toList):a=b:=by
 rw[ByteArray.toList_eq,ByteArray.toList_eq] at h
 obtain⟨d⟩:=a
 obtain⟨d'⟩:=b
 have:d=d':=Array.toList_inj.1 h
 rw[this]
theorem wl (a b:ByteArray):dU b a = - dU a b:=by rw[ew,ew];exact kP _ _
theorem vO {a b:ByteArray} (h:dU a b=0):a=b:=by
 rw[ew] at h
 exact rE (jf h)
theorem vP (a:ByteArray):dU a a=0:=by rw[ew];exact gH _
theorem vg {a b c:ByteArray} (h:dU a b<0) (k:dU b c≤0):dU a c<0:=by
 rw[ew] at h k ⊢
 exact(mJ _ _ _).2.1 h k
theorem uo {a b c:ByteArray} (h:dU a b≤0) (k:dU b c<0):dU a c<0:=by
 rw[ew] at h k ⊢
 exact(mJ _ _ _).2.2.1 h k
theorem vh (a b:ByteArray):dU a b = -1∨dU a b=0∨dU a b=1:=by
 unfold dU
 split
 ·exact .inl rfl
 ·split
  ·exact .inr (.inl rfl)
  ·exact .inr (.inr rfl)
def wU (ns:List ByteArray):Prop:=∀(i j:Nat) (x y:ByteArray),i<j→ns[i]? = some x→ns[j]? = some y→dU x y<0
def ww (ns:List ByteArray) (t:ByteArray) (i:Nat) (f:Bool):Prop:=i≤ns.length∧(∀k x,k<i→ns[k]? = some x→dU x t<0)∧(∀k x,i≤k→ns[k]? = some x→dU t x≤0)∧(f=true→ns[i]? = some t)∧(f=false→t ∉ ns)
def wQ (ns:List ByteArray) (t:ByteArray) (e:Ending):Prop:=∃(i:Nat) (f:Bool),e=J (Q #[F D i,.bool f])∧ww ns t i f
end Go.Proofs.YtijjpoohhgapoaaGreatDoor

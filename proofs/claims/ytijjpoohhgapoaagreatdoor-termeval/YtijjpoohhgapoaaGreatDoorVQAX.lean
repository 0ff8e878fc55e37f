import Derived.Test.YtijjpoohhgapoaaGreatDoorVQAW
import Derived.Laws.EntriesVeiled
namespace Go.Proofs.YtijjpoohhgapoaaGreatDoor
open Go.RowKit
set_option linter.unusedVariables false
set_option maxHeartbeats 4000000
set_option maxRecDepth 100000
open Value renaming string → C, int → F, slice → G, agg → J, tuple → K
open IntKind renaming i64 → D
open Obj renaming cells → H
open Ending renaming returned → I
open List renaming mem_of_mem_drop → M, mem_cons_self → Q
open RowKit.Below renaming refl → N
open Nat renaming lt_of_lt_of_le → O, le_refl → S
theorem gb {nm:ByteArray} {o:Nat} (h:bN nm=some o):∃x,dp[o]? = some x∧nm=⟨x.toArray⟩:=by
 have key:∀(ks:List (List UInt8)) (j i:Nat),fK nm ks j=some i→∃x,ks[i-j]? = some x∧nm=⟨x.toArray⟩∧j≤i:=by
  intro ks
  induction ks with
  | nil=>intro j i h;cases h
  | cons x ks ih=>
    intro j i h
    unfold fK at h
    split at h
    ·rename_i hx
     injection h with h
     subst h
     exact⟨x,by simp,gp hx,S _⟩
    ·obtain⟨y,h1,h2,h3⟩:=ih (j+1) i h
     refine⟨y,?_,h2,by omega⟩
     rw[show i-j=(i-(j+1))+1 by omega,List.getElem?_cons_succ]
     exact h1
 obtain⟨x,h1,h2,_⟩:=key dp 0 o h
 exact⟨x,h1,h2⟩
theorem mt {nm:ByteArray} {o:Nat} (h:bN nm=some o):(o=15∧(nm.toList == [105,100])=true∧(nm.toList == [116,121,112,101])=false)∨(o=16∧(nm.toList == [105,100])=false∧(nm.toList == [116,121,112,101])=true)∨(o≠15∧o≠16∧(nm.toList == [105,100])=false∧(nm.toList == [116,121,112,101])=false):=by
 have hlt:=ir h
 obtain⟨x,h1,h2⟩:=gb h
 have:o=0∨o=1∨o=2∨o=3∨o=4∨o=5∨o=6∨o=7∨o=8∨o=9∨o=10∨o=11∨o=12∨o=13∨o=14∨o=15∨o=16:=by omega
 have hn:nm.toList=x:=by rw[h2,ByteArray.toList_eq]
 rw[hn]
 rcases this with rfl | rfl | rfl | rfl | rfl | rfl | rfl | rfl | rfl | rfl | rfl | rfl | rfl | rfl | rfl | rfl | rfl<;>
  (cases h1;decide)
theorem ly {P:Program} {w:World} {b:Nat} {cs:Array Value} {t:TypeId} (h:w.heap[b]? = some (H cs t (0,0))) (i:Nat) (hi:i<cs.size) (v:Value) (hv:v.oneCell'=true):(store ⟨b,i,none⟩ v).run P w = .ok () (w.setCell ⟨b,i,none⟩ v):=by
 have h1:=ac h i
 have h2:=aj h i
 rw[Array.getElem?_eq_getElem hi] at h1
 rw[run_store _ _ _ _ _ hv,h1]
 simp[h2]
theorem nP (bk o:Nat):(jE bk o).oneCell'=true:=by unfold jE;split<;>rfl
theorem ka {w:World} {bm bk:Nat} (hb:dr w bm bk) (nm:ByteArray):(Instr.lookup 54 (.map (some bm)) (C nm) true).run Tryz.prog w = .ok (K #[match bN nm with | some i=>J #[F D (an i),jE bk i] | none=>J #[F D 0,.nilFunc],.bool (bN nm).isSome]) w:=by
 have r1:=bn (P:=Tryz.prog) (w:=w) Tryz.underlying54 Tryz.underlying9 hb.1 (by simpa using br bk) nm (ln w) true
 have e:bH nm (aC bk).toArray.toList=(bN nm).map fun i=>J #[F D (an i),jE bk i]:=by simpa using ma nm bk
 rw[e] at r1
 cases ho:bN nm with
 | none=>rw[ho] at r1;exact r1
 | some i=>rw[ho] at r1;exact r1
theorem vo {env:ByteArray→Option Th} {R:Tm→Prop} (w0 w:World) (k vk vn:Int) (vs:ByteArray) (va:Option Addr) (vl vc:Nat) (nm:ByteArray) (a:Option Addr) (l c:Nat) (Lv:List T) (A:List Tm) (bm m bk:Nat) (tm:Int) (hw:Below w0.heap.size w0 w) (ht:bd w0 k vk vn vs va vl vc nm a l c Lv A) (hn:bI w0 m env) (hbo:dr w0 bm bk) (htm:0≤tm∧tm≤6)
  (IH:∀(xk xvk xvn:Int) (xvs:ByteArray) (xva:Option Addr) (xvl xvc:Nat) (xnm:ByteArray) (xa:Option Addr) (xl xc:Nat) (Lv:List T) (A':List Tm),bd w0 xk xvk xvn xvs xva xvl xvc xnm xa xl xc Lv A'→.node xk (.node xvk xvn xvs Lv) xnm A' ∈ A→∀W,Below w0.heap.size w0 W→Calls Tryz.prog 56 #[.map (some bm),J #[F D xk,F D xvk,F D xvn,C xvs,G xva xvl xvc,C xnm,G xa xl xc],.map (some m),F D (tm+1)] W fun e w'=>(∃r,e=I (F D r)∧(r=0 ↔ R (.node xk (.node xvk xvn xvs Lv) xnm A')))∧Below W.heap.size W w'):Calls Tryz.prog 88 #[.map (some bm),J #[F D k,F D vk,F D vn,C vs,G va vl vc,C nm,G a l c],.map (some m),F D tm] w fun e w'=>(∃r,e=I (F D r)∧(r=0 ↔ A.length≤30∧(∀x ∈ A,R x)∧∃i,bN nm=some i∧(an i = -1∨an i=A.length)∧(i=15→∃x r,A=x::r∧x.kind=2)∧(i=16→∃x r,A=x::r∧x.kind=2∧((env x.name).getD Th.zero).edge=true)))∧Below w.heap.size w w':=by
 obtain⟨CP,HCP⟩:∃z:Prop,Hid (z ↔ (A.length≤30∧(∀x ∈ A,R x)∧∃i,bN nm=some i∧(an i = -1∨an i=A.length)∧(i=15→∃x r,A=x::r∧x.kind=2)∧(i=16→∃x r,A=x::r∧x.kind=2∧((env x.name).getD Th.zero).edge=true))):=⟨_,Iff.rfl⟩
 suffices hmain:Calls Tryz.prog 88 #[.map (some bm),J #[F D k,F D vk,F D vn,C vs,G va vl vc,C nm,G a l c],.map (some m),F D tm] w fun e w'=>(∃r,e=I (F D r)∧(r=0 ↔ CP))∧Below w.heap.size w w' from dm hmain fun e w' h=>by
  obtain⟨⟨r,h1,h2⟩,h3⟩:=h
  exact⟨⟨r,h1,h2.trans HCP.out⟩,h3⟩
 have HLEN:=aa ht.args.len.1
 have HNS:=aa ht.nms
 have HAR:=aa ht.args
 have hmx:=ht.args.len.2
 have HW:=aa hw
 have HIH:=aa IH
 have HN:=aa hn
 have hwr:IntKind.i64.wrap (tm+1)=tm+1:=by rw[IntKind.wrap_i64];omega
 have hb0:Below w.heap.size w (w.alloc (H #[F D k,F D vk,F D vn,C vs,G va vl vc,C nm,G a l c] 33)):=(N _ _).alloc (S _) _
 have hlk:=ka (hbo.below (hw.trans (hb0.mono hw.size))) nm
 clear hw ht IH hn hbo hb0
 cases ho:bN nm with
 | none=>
   rw[ho] at hlk
   have hlk:(Instr.lookup 54 (.map (some bm)) (C nm) true).run Tryz.prog (w.alloc (H #[F D k,F D vk,F D vn,C vs,G va vl vc,C nm,G a l c] 33)) = .ok (K #[J #[F D 0,.nilFunc],.bool false]) (w.alloc (H #[F D k,F D vk,F D vn,C vs,G va vl vc,C nm,G a l c] 33)):=hlk
   have HO:=aa ho
   have HB:Hid (Below w.heap.size w ((w.alloc (H #[F D k,F D vk,F D vn,C vs,G va vl vc,C nm,G a l c] 33)).alloc (H #[F D 0,.nilFunc] 84))):=((N _ _).alloc (S _) _).alloc (by simp) _
   clear ho
   go_enter Tryz.func88,Tryz.ntmps88
   go_wp2_with fail
   go_ret
   exact⟨⟨_,rfl,fun h=>absurd h (by decide),fun h=>by
    obtain⟨_,_,i,hi,_⟩:=HCP.out.1 h
    rw[HO.out] at hi
    cases hi⟩,HB.out⟩
 | some o=>
   rw[ho] at hlk
   obtain⟨tk,htk⟩:∃z,z=an o:=⟨_,rfl⟩
   obtain⟨fv,hfv⟩:∃z,z=jE bk o:=⟨_,rfl⟩
   have hlk2:(Instr.lookup 54 (.map (some bm)) (C nm) true).run Tryz.prog (w.alloc (H #[F D k,F D vk,F D vn,C vs,G va vl vc,C nm,G a l c] 33)) = .ok (K #[J #[F D tk,fv],.bool true]) (w.alloc (H #[F D k,F D vk,F D vn,C vs,G va vl vc,C nm,G a l c] 33)):=by rw[htk,hfv];exact hlk
   have hst:=ly (P:=Tryz.prog) (ay w (H #[F D k,F D vk,F D vn,C vs,G va vl vc,C nm,G a l c] 33) (H #[F D tk,.nilFunc] 84)) 1 (by simp) fv (by rw[hfv];exact nP bk o)
   clear hlk
   have HTK:=aa htk
   have HO:=aa ho
   have hb2:Below w.heap.size w ((w.alloc (H #[F D k,F D vk,F D vn,C vs,G va vl vc,C nm,G a l c] 33)).alloc (H #[F D tk,fv] 84)):=((N _ _).alloc (S _) _).alloc (by simp) _
   have HB:=aa hb2
   clear ho htk hfv hb2
   by_cases h1:tk = -1∨tk=l
   ·have HT:Hid (an o = -1∨an o=A.length):=by
     have:=HTK.out
     have:=HLEN.out
     show _∨_
     omega
    have key:(tk != -1)=false∨((tk != -1)=true∧(tk != (l:Int))=false):=by
     by_cases h2:tk = -1
     ·exact .inl (by simp[h2])
     ·exact .inr ⟨by simp[h2],by simp;omega⟩
    have H1:=aa h1
    clear h1
    by_cases h30:l≤30
    ·have hl30:¬(30:Int)<l:=by omega
     have h1:((w.alloc (H #[F D k,F D vk,F D vn,C vs,G va vl vc,C nm,G a l c] 33)).alloc (H #[F D tk,fv] 84)).heap[w.heap.size]? = some (H #[F D k,F D vk,F D vn,C vs,G va vl vc,C nm,G a l c] 33 (0,0)):=by
      have hb:Below (w.heap.size+1) (w.alloc (H #[F D k,F D vk,F D vn,C vs,G va vl vc,C nm,G a l c] 33)) ((w.alloc (H #[F D k,F D vk,F D vn,C vs,G va vl vc,C nm,G a l c] 33)).alloc (H #[F D tk,fv] 84)):=(N _ _).alloc (by simp) _
      exact(hb.block w.heap.size (by omega)).trans (ae w (H #[F D k,F D vk,F D vn,C vs,G va vl vc,C nm,G a l c] 33))
     have hz:((w.alloc (H #[F D k,F D vk,F D vn,C vs,G va vl vc,C nm,G a l c] 33)).alloc (H #[F D tk,fv] 84)).heap.size=w.heap.size+2:=by simp
     have HZ:=aa hz
     have HX:=aa h1
     clear h1 hz
     rcases key with hn1 | ⟨hn1,hn2⟩
     all_goals
      go_enter Tryz.func88,Tryz.ntmps88
      go_wp2_with fail
      clear hlk2 hst
      generalize (w.alloc (H #[F D k,F D vk,F D vn,C vs,G va vl vc,C nm,G a l c] 33)).alloc (H #[F D tk,fv] 84)=W at HB HX HZ ⊢
      go_loopg [43] l (fun q s43 wr=>∃(i:Nat),i≤l∧l-i≤q∧s43=F D i∧Below (w.heap.size+2) W wr∧∀x ∈ A.take i,R x)
      case atStart=>exact⟨0,Nat.zero_le _,by omega,rfl,N _ _,fun x hx=>by simp at hx⟩
      case round=>
       obtain⟨i,hi,hg,rfl,hbw,hall⟩:=hrel
       have HALL:=aa hall
       have hzw:w.heap.size+2≤wr.heap.size:=by have:=hbw.size;rw[HZ.out] at this;exact this
       have hw0:Below w.heap.size w wr:=HB.out.trans (hbw.mono (by omega))
       have hw00:Below w0.heap.size w0 wr:=HW.out.trans (hw0.mono HW.out.size)
       clear hall
       by_cases hlt:i<l
       ·obtain⟨b,off,xk,xvk,xvn,xvs,xva,xvl,xvc,xnm,xa,xl,xc,Lv',A',ha,hbl,hd,⟨e0,e1,e2,e3,e4,e5,e6⟩,hta⟩:=HAR.out.at (i:=i) hlt
        have HC:=aa (HIH.out xk xvk xvn xvs xva xvl xvc xnm xa xl xc Lv' A' hta (M (i:=i) (by rw[hd];exact Q ..)))
        have HMM:Hid (.node xk (.node xvk xvn xvs Lv') xnm A' ∈ A):=M (i:=i) (by rw[hd];exact Q ..)
        have HTK2:Hid (A.take (i+1)=A.take i ++ [.node xk (.node xvk xvn xvs Lv') xnm A']):=by
         have e:A[i]? = some (.node xk (.node xvk xvn xvs Lv') xnm A'):=by
          have:=List.getElem?_drop (xs:=A) (i:=i) (j:=0)
          rw[hd] at this
          simpa using this.symm
         show A.take (i+1)=_
         rw[List.take_add_one,e]
         rfl
        subst ha
        have q2:∀o,wr.cell? ⟨b,o,none⟩=w0.cell? ⟨b,o,none⟩:=fun o=>hw00.cell (p:=⟨b,o,none⟩) hbl
        have d0:=(q2 _).trans e0
        have d1:=(q2 _).trans e1
        have d2:=(q2 _).trans e2
        have d3:=(q2 _).trans e3
        have d4:=(q2 _).trans e4
        have d5:=(q2 _).trans e5
        have d6:=(q2 _).trans e6
        have hil:(i:Int)<l:=by omega
        have hbW:b<wr.heap.size:=O hbl hw00.size
        have HBX:=aa (show Below (w.heap.size+2) W (wr.alloc (H #[F D xk,F D xvk,F D xvn,C xvs,G xva xvl xvc,C xnm,G xa xl xc] 33)) from hbw.alloc (by omega) _)
        have HW0X:=aa (show Below w0.heap.size w0 (wr.alloc (H #[F D xk,F D xvk,F D xvn,C xvs,G xva xvl xvc,C xnm,G xa xl xc] 33)) from hw00.alloc hw00.size _)
        have HBW:=aa (show Below w.heap.size w (wr.alloc (H #[F D xk,F D xvk,F D xvn,C xvs,G xva xvl xvc,C xnm,G xa xl xc] 33)) from hw0.alloc hw0.size _)
        clear e0 e1 e2 e3 e4 e5 e6 q2 hd hta hbw hw0 hw00
        go_wp2_with (go_at_call 56;refine(HC.out _ HW0X.out).mono ?_)
        clear d0 d1 d2 d3 d4 d5 d6
        rintro e u1 ⟨⟨r,rfl,hr⟩,k1⟩
        have HB1:=aa (HBX.out.trans (k1.mono (by simp;omega)))
        have HB2:=aa (af HBW.out k1)
        have HR:=aa hr
        clear hr k1
        by_cases hr0:r=0
        ·subst hr0
         go_wp2_with fail
         go_roundg (l-(i+1))
         case measure=>omega
         case rel=>exact⟨i+1,by omega,by omega,by go_num,HB1.out,fun x hx=>by
          rw[HTK2.out] at hx
          rcases List.mem_append.1 hx with h | h
          ·exact HALL.out x h
          ·rw[List.mem_singleton.1 h]
           exact HR.out.1 (by first | rfl | trivial)⟩
        ·have hr':(r != 0)=true:=by simp[hr0]
         go_wp2_with fail
         go_ret
         exact⟨⟨r,rfl,fun h=>absurd h hr0,fun h=>HR.out.2 ((HCP.out.1 h).2.1 _ HMM.out)⟩,HB2.out⟩
       ·have hil:¬(i:Int)<l:=by omega
        have HALL2:Hid (∀x ∈ A,R x):=fun x hx=>HALL.out x (by rw[List.take_of_length_le (by have:=HLEN.out;omega)];exact hx)
        have h0:=(hbw.block w.heap.size (by omega)).trans HX.out
        have c5:=ac h0 5
        have c6:=ac h0 6
        simp at c5 c6
        have hsz:w.heap.size<wr.heap.size:=by omega
        have HBW:=aa hw0
        have HW0:=aa hw00
        clear h0 hbw hw0 hw00
        rcases mt HO.out with⟨rfl,hm1,hm2⟩ | ⟨rfl,hm1,hm2⟩ | ⟨ho1,ho2,hm1,hm2⟩
        ·have hl1:l=1:=by have h:=H1.out;rw[HTK.out,show an 15=1 from by decide] at h;omega
         obtain⟨b,off,xk,xvk,xvn,xvs,xva,xvl,xvc,xnm,xa,xl,xc,Lv',A',ha,hbl,hd,⟨e0,e1,e2,e3,e4,e5,e6⟩,hta⟩:=HAR.out.at (i:=0) (by omega)
         rw[Nat.zero_mul,Nat.add_zero] at e0 e1 e2 e3 e4 e5 e6
         subst ha
         have HA:Hid (A = .node xk (.node xvk xvn xvs Lv') xnm A'::A.drop 1):=by show _=_;simpa using hd
         have d0:(wr).cell? ⟨b,off,none⟩=some (F D xk):=(HW0.out.cell (p:=⟨b,off,none⟩) hbl).trans e0
         have d1:(wr).cell? ⟨b,off+1,none⟩=some (F D xvk):=(HW0.out.cell (p:=⟨b,off+1,none⟩) hbl).trans e1
         have d2:(wr).cell? ⟨b,off+2,none⟩=some (F D xvn):=(HW0.out.cell (p:=⟨b,off+2,none⟩) hbl).trans e2
         have d3:(wr).cell? ⟨b,off+3,none⟩=some (C xvs):=(HW0.out.cell (p:=⟨b,off+3,none⟩) hbl).trans e3
         have d4:(wr).cell? ⟨b,off+4,none⟩=some (G xva xvl xvc):=(HW0.out.cell (p:=⟨b,off+4,none⟩) hbl).trans e4
         have d5:(wr).cell? ⟨b,off+5,none⟩=some (C xnm):=(HW0.out.cell (p:=⟨b,off+5,none⟩) hbl).trans e5
         have d6:(wr).cell? ⟨b,off+6,none⟩=some (G xa xl xc):=(HW0.out.cell (p:=⟨b,off+6,none⟩) hbl).trans e6
         have hbW:b<wr.heap.size:=O hbl HW0.out.size
         clear e0 e1 e2 e3 e4 e5 e6 hd hta
         by_cases hk:xk=2
         ·subst hk
          go_wp2_with fail
          go_ret
          exact⟨⟨_,rfl,fun _=>HCP.out.2 ⟨by rw[←HLEN.out];exact h30,HALL2.out,15,HO.out,HT.out,fun _=>⟨_,_,HA.out,rfl⟩,fun h=>absurd h (by decide)⟩,fun _=>rfl⟩,HBW.out⟩
         ·have hk':(xk != 2)=true:=by simp[hk]
          go_wp2_with fail
          go_ret
          refine⟨⟨_,rfl,fun h=>absurd h (by decide),fun h=>?_⟩,HBW.out⟩
          obtain⟨_,_,i,hi,_,h15,_⟩:=HCP.out.1 h
          rw[HO.out] at hi
          injection hi with hi
          obtain⟨x,r,hx,hxk⟩:=h15 hi.symm
          rw[HA.out] at hx
          injection hx with hx _
          rw[←hx] at hxk
          exact absurd hxk hk
        ·have hl1:l=1:=by have h:=H1.out;rw[HTK.out,show an 16=1 from by decide] at h;omega
         obtain⟨b,off,xk,xvk,xvn,xvs,xva,xvl,xvc,xnm,xa,xl,xc,Lv',A',ha,hbl,hd,⟨e0,e1,e2,e3,e4,e5,e6⟩,hta⟩:=HAR.out.at (i:=0) (by omega)
         rw[Nat.zero_mul,Nat.add_zero] at e0 e1 e2 e3 e4 e5 e6
         subst ha
         have HA:Hid (A = .node xk (.node xvk xvn xvs Lv') xnm A'::A.drop 1):=by show _=_;simpa using hd
         have d0:(wr).cell? ⟨b,off,none⟩=some (F D xk):=(HW0.out.cell (p:=⟨b,off,none⟩) hbl).trans e0
         have d1:(wr).cell? ⟨b,off+1,none⟩=some (F D xvk):=(HW0.out.cell (p:=⟨b,off+1,none⟩) hbl).trans e1
         have d2:(wr).cell? ⟨b,off+2,none⟩=some (F D xvn):=(HW0.out.cell (p:=⟨b,off+2,none⟩) hbl).trans e2
         have d3:(wr).cell? ⟨b,off+3,none⟩=some (C xvs):=(HW0.out.cell (p:=⟨b,off+3,none⟩) hbl).trans e3
         have d4:(wr).cell? ⟨b,off+4,none⟩=some (G xva xvl xvc):=(HW0.out.cell (p:=⟨b,off+4,none⟩) hbl).trans e4
         have d5:(wr).cell? ⟨b,off+5,none⟩=some (C xnm):=(HW0.out.cell (p:=⟨b,off+5,none⟩) hbl).trans e5
         have d6:(wr).cell? ⟨b,off+6,none⟩=some (G xa xl xc):=(HW0.out.cell (p:=⟨b,off+6,none⟩) hbl).trans e6
         have hbW:b<wr.heap.size:=O hbl HW0.out.size
         clear e0 e1 e2 e3 e4 e5 e6 hd hta
         obtain⟨be,hbe⟩:∃z,z=ck env xk xnm:=⟨_,rfl⟩
         have HE:Hid (Calls Tryz.prog 118 #[J #[F D xk,F D xvk,F D xvn,C xvs,G xva xvl xvc,C xnm,G xa xl xc],.map (some m)] wr fun e w'=>e=I (.bool be)∧Below wr.heap.size wr w'):=by
          rw[hbe]
          exact oj w0 wr xk xvk xvn xvs xva xvl xvc xnm xa xl xc m HW0.out HN.out
         have HBE:Hid (be=true ↔ xk=2∧((env xnm).getD Th.zero).edge=true):=by
          show _ ↔ _
          rw[hbe]
          simp[ck]
         clear hbe
         go_wp2_with fail
         refine HE.out.mono ?_
         rintro e u1 ⟨rfl,k1⟩
         have HB2:=aa (af HBW.out k1)
         clear k1 d0 d1 d2 d3 d4 d5 d6 c5 c6
         cases be with
         | true=>
           go_wp2_with fail
           go_ret
           exact⟨⟨_,rfl,fun _=>HCP.out.2 ⟨by rw[←HLEN.out];exact h30,HALL2.out,16,HO.out,HT.out,fun h=>absurd h (by decide),fun _=>⟨_,_,HA.out,(HBE.out.1 (by first | rfl | trivial)).1,(HBE.out.1 (by first | rfl | trivial)).2⟩⟩,fun _=>rfl⟩,HB2.out⟩
         | false=>
           go_wp2_with fail
           go_ret
           refine⟨⟨_,rfl,fun h=>absurd h (by decide),fun h=>?_⟩,HB2.out⟩
           obtain⟨_,_,i,hi,_,_,h16⟩:=HCP.out.1 h
           rw[HO.out] at hi
           injection hi with hi
           obtain⟨x,r,hx,hxk,hxe⟩:=h16 hi.symm
           rw[HA.out] at hx
           injection hx with hx _
           rw[←hx] at hxk hxe
           have:=HBE.out.2 ⟨hxk,hxe⟩
           exact absurd this (by simp)
        ·go_wp2_with fail
         go_ret
         exact⟨⟨_,rfl,fun _=>HCP.out.2 ⟨by rw[←HLEN.out];exact h30,HALL2.out,o,HO.out,HT.out,fun h=>absurd h ho1,fun h=>absurd h ho2⟩,fun _=>rfl⟩,HBW.out⟩
    ·have hl30:(30:Int)<l:=by omega
     rcases key with hn1 | ⟨hn1,hn2⟩
     all_goals
      go_enter Tryz.func88,Tryz.ntmps88
      go_wp2_with fail
      go_ret
      exact⟨⟨_,rfl,fun h=>absurd h (by decide),fun h=>absurd (HCP.out.1 h).1 (by rw[←HLEN.out];exact h30)⟩,HB.out⟩
   ·have hn1:(tk != -1)=true:=by simp;omega
    have hn2:(tk != (l:Int))=true:=by simp;omega
    have H1:=aa h1
    clear h1
    go_enter Tryz.func88,Tryz.ntmps88
    go_wp2_with fail
    go_ret
    refine⟨⟨_,rfl,fun h=>absurd h (by decide),fun h=>?_⟩,HB.out⟩
    obtain⟨_,_,i,hi,ht,_⟩:=HCP.out.1 h
    rw[HO.out] at hi
    injection hi with hi
    subst hi
    rw[←HTK.out,←HLEN.out] at ht
    exact absurd ht H1.out
theorem it {w:World} {k n:Int} {s:ByteArray} {L:List T} {a:Option Addr} {l:Nat} (h:am w L a l):(k=0∧n=0∧s=⟨#[]⟩∧l=0) ↔ T.node k n s L=aw:=by
 have hl:=h.length.1
 constructor
 ·rintro⟨rfl,rfl,rfl,h0⟩
  have:L = []:=List.length_eq_zero_iff.1 (by omega)
  rw[this]
  rfl
 ·intro e
  unfold aw at e
  injection e with e1 e2 e3 e4
  exact⟨e1,e2,e3,by rw[hl,e4];rfl⟩
theorem mp {env:ByteArray→Option Th} {d:Nat} {vk vn:Int} {vs:ByteArray} {Lv:List T} {nm:ByteArray} {A:List Tm}:aS env (d+1) (.node 1 (.node vk vn vs Lv) nm A) ↔ (nm.toList = []∧A = []∧vk≠4∧Ck 6 (.node vk vn vs Lv)):=by
 constructor
 ·rintro⟨_,⟨_,h⟩ | ⟨h,_⟩ | ⟨h,_⟩ | ⟨h,_⟩⟩
  ·exact h
  ·omega
  ·omega
  ·omega
 ·intro h
  exact⟨fun e=>absurd rfl e,.inl ⟨rfl,h⟩⟩
theorem mo {env:ByteArray→Option Th} {d:Nat} {v:T} {nm:ByteArray} {A:List Tm}:aS env (d+1) (.node 2 v nm A) ↔ (v=aw∧A = []∧cW nm=true∧(env nm).isSome=true):=by
 constructor
 ·rintro⟨hv,⟨h,_⟩ | ⟨_,h⟩ | ⟨h,_⟩ | ⟨h,_⟩⟩
  ·omega
  ·exact⟨hv (by omega),h⟩
  ·omega
  ·omega
 ·intro h
  exact⟨fun _=>h.1,.inr (.inl ⟨rfl,h.2⟩)⟩
theorem pZ {env:ByteArray→Option Th} {d:Nat} {v:T} {nm:ByteArray} {A:List Tm}:aS env (d+1) (.node 3 v nm A) ↔ (v=aw∧Go.Proofs.YtijjpoohhgapoaaGreatDoor.nm nm=true∧∃x,A = [x]∧x.kind=2∧aS env d x):=by
 constructor
 ·rintro⟨hv,⟨h,_⟩ | ⟨h,_⟩ | ⟨_,h⟩ | ⟨h,_⟩⟩
  ·omega
  ·omega
  ·exact⟨hv (by omega),h⟩
  ·omega
 ·intro h
  exact⟨fun _=>h.1,.inr (.inr (.inl ⟨rfl,h.2⟩))⟩
theorem mn {env:ByteArray→Option Th} {d:Nat} {v:T} {nm:ByteArray} {A:List Tm}:aS env (d+1) (.node 4 v nm A) ↔ (v=aw∧A.length≤30∧(∀x ∈ A,aS env d x)∧∃i,bN nm=some i∧(an i = -1∨an i=A.length)∧(i=15→∃x r,A=x::r∧x.kind=2)∧(i=16→∃x r,A=x::r∧x.kind=2∧((env x.name).getD Th.zero).edge=true)):=by
 constructor
 ·rintro⟨hv,⟨h,_⟩ | ⟨h,_⟩ | ⟨h,_⟩ | ⟨_,h⟩⟩
  ·omega
  ·omega
  ·omega
  ·exact⟨hv (by omega),h⟩
 ·intro h
  exact⟨fun _=>h.1,.inr (.inr (.inr ⟨rfl,h.2⟩))⟩
def fq (k n:Int) (s:ByteArray) (l:Nat):Int:=if k=3 then (if s.size>4000 then 2 else if Lib.validD s.data.toList=true∧n=0∧l=0 then 0 else 6) else if (k=0∧n=0∨k=1∧(n=0∨n=1)∨k=2)∧s=⟨#[]⟩∧l=0 then 0 else 6
def qE (n:Int) (s:ByteArray):Int:=if n=0∧s=⟨#[]⟩ then 0 else 6
def dq:List Int→Int→Int
 | [],z=>z
 | e::es,z=>if e=0 then dq es z else e
def chk:Nat→T→Int
 | 0,.node k n s L=>if k=4 then 2 else fq k n s L.length
 | f+1,.node k n s L=>if k=4 then (if 30<L.length then 2 else dq (L.map (chk f)) (qE n s)) else fq k n s L.length
theorem gP (es:Nat→Int) (z:Int):∀(E:List Int) (i:Nat),(∀j,(h:j<E.length)→es (i+j)=E[j])→a8 es i E.length z=dq E z
 | [],i,_=>rfl
 | e::E,i,h=>by
   have h0:es i=e:=h 0 (by simp)
   show(if es i=0 then a8 es (i+1) E.length z else es i)=if e=0 then dq E z else e
   rw[h0,gP es z E (i+1) fun j hj=>by
    have:=h (j+1) (by simpa using hj)
    rw[show i+1+j=i+(j+1) from by omega]
    simpa using this]
theorem oE (B:Nat) (w:World) (hB:B≤w.heap.size) (hT:bD B w) (d:Nat) (k n:Int) (s:ByteArray) (a:Option Addr) (l c lists:Nat) (L:List T) (h4:k≠4) (hs:s.size≤9223372036854775807) (hin:InT (.node k n s L)) (hL:am w L a l):iO w (J #[F D k,F D n,C s,G a l c]) lists (fq k n s L.length):=by
 have hl:=hL.length
 rw[←hl.1]
 by_cases h3:k=3
 ·subst h3
  have hv:∀w1,Below w.heap.size w w1→∀w',Below w1.heap.size w1 w'→Calls Tryz.prog 60 #[C s] w' fun e w''=>e=I (.bool (Lib.validD s.data.toList))∧Below w'.heap.size w' w'':=fun w1 k1 w' k'=>Tryz.utf8_ValidString s w' hs (hT.below ((af k1 k').mono hB)).now
  have e0:fq 3 n s l=if s.size>4000 then 2 else if Lib.validD s.data.toList=true∧n=0∧l=0 then 0 else 6:=rfl
  rw[e0]
  exact fun w' k=>⟨fS n s a l c lists _ w' fun w2 k2=>eU n s a l c (Lib.validD s.data.toList) w2 hs hl.2 (hv w2 (af k k2)),by first | exact jV n s a l c (lists+1) (Lib.validD s.data.toList) _ w' hs hl.2 rfl (hv w' k) | exact trivial⟩
 ·have e0:fq k n s l=if (k=0∧n=0∨k=1∧(n=0∨n=1)∨k=2)∧s=⟨#[]⟩∧l=0 then 0 else 6:=if_neg h3
  rw[e0]
  obtain⟨z,hz⟩:∃z:Int,z=if (k=0∧n=0∨k=1∧(n=0∨n=1)∨k=2)∧s=⟨#[]⟩∧l=0 then 0 else 6:=⟨_,rfl⟩
  rw[←hz]
  have hz0:(k=0∧n=0∨k=1∧(n=0∨n=1)∨k=2)→s=⟨#[]⟩→l=0→z=0:=fun h1 h2 h3=>by rw[hz,if_pos ⟨h1,h2,h3⟩]
  have hz1:¬(k=0∧n=0∨k=1∧(n=0∨n=1)∨k=2)→z=6:=fun h=>by rw[hz,if_neg (fun g=>h g.1)]
  have hz2:s≠⟨#[]⟩→z=6:=fun h=>by rw[hz,if_neg (fun g=>h g.2.1)]
  have hz3:l≠0→z=6:=fun h=>by rw[hz,if_neg (fun g=>h g.2.2)]
  exact fun w' kk=>⟨eq k n s a l c lists z w' (by simpa using h4) (by simpa using h3) fun w2 k2=>dK k n s a l c z w2 hz0 hz1 hz2 hz3 hl.2,by first | exact iW k n s a l c (lists+1) z w' hl.2 (by simpa using h4) (by simpa using h3) hz0 hz1 hz2 hz3 | exact trivial⟩
theorem pJ (B:Nat) (w:World) (hB:B≤w.heap.size) (hT:bD B w):∀(f lists:Nat),lists+f=6→∀(k n:Int) (s:ByteArray) (a:Option Addr) (l c:Nat) (L:List T),s.size≤9223372036854775807→InT (.node k n s L)→am w L a l→iO w (J #[F D k,F D n,C s,G a l c]) lists (chk f (.node k n s L)):=by
 intro f
 induction f with
 | zero=>
   intro lists hd k n s a l c L hs hin hL
   by_cases h4:k=4
   ·subst h4
    exact cA w n s a l c lists hL.length.2 (.inr (by omega))
   ·have e0:chk 0 (.node k n s L)=fq k n s L.length:=if_neg h4
    rw[e0]
    exact oE B w hB hT 0 k n s a l c lists L h4 hs hin hL
 | succ f ih=>
   intro lists hd k n s a l c L hs hin hL
   by_cases h4:k=4
   ·subst h4
    have e0:chk (f+1) (.node 4 n s L)=if 30<L.length then 2 else dq (L.map (chk f)) (qE n s):=by
     unfold chk
     exact if_pos rfl
    rw[e0]
    by_cases hm:30<l
    ·rw[if_pos (by rw[←hL.length.1];exact hm)]
     exact cA w n s a l c lists hL.length.2 (.inl hm)
    ·rw[if_neg (by rw[←hL.length.1];exact hm)]
     obtain⟨z,hz⟩:∃z,z=qE n s:=⟨_,rfl⟩
     rw[←hz]
     have hz0:n=0→s=⟨#[]⟩→z=0:=fun h1 h2=>by rw[hz];exact if_pos ⟨h1,h2⟩
     have hz1:n≠0→z=6:=fun h=>by rw[hz];exact if_neg (fun g=>h g.1)
     have hz2:s≠⟨#[]⟩→z=6:=fun h=>by rw[hz];exact if_neg (fun g=>h g.2)
     by_cases h0:l=0
     ·subst h0
      have e1:L = []:=List.length_eq_zero_iff.1 hL.length.1.symm
      subst e1
      exact fun w' k=>⟨cZ n s a 0 c lists z w' fun w2 k2=>eh 4 n s a c lists z w2 (by omega) hz0 hz1 hz2,by first | exact iY n s a c (lists+1) z w' (by omega) hz0 hz1 hz2 | exact trivial⟩
     ·obtain⟨b,off,_,rfl,hb,_⟩:=hL.get (i:=0) (by omega)
      have hlen:=hL.length.1
      obtain⟨es,hes0⟩:∃es:Nat→Int,∀i,(h:i<L.length)→es i=chk f L[i]:=⟨fun i=>if h:i<L.length then chk f L[i] else 0,fun i h=>dif_pos h⟩
      have hes:∀i,i<l→iO w ((cK w b off).at i) (lists+1) (es i):=by
       intro i hi
       obtain⟨kt,nt,st,Lt,at',lt,ct,_,hd',p0,p1,p2,p3,hlc,hLt,_,hst⟩:=hL.at2 hi
       have hi2:i<L.length:=by omega
       have hLi:L[i] = .node kt nt st Lt:=by
        have h1:=List.drop_eq_getElem_cons hi2
        rw[hd'] at h1
        exact(List.cons.inj h1).1.symm
       rw[fm p0 p1 p2 p3,hes0 i hi2,hLi]
       have hmem:T.node kt nt st Lt ∈ L:=M (by rw[hd'];exact Q ..)
       exact ih (lists+1) (by omega) kt nt st at' lt ct Lt hst (InL.mem (by unfold InT at hin;exact hin.2) hmem) hLt
      have e2:a8 es 0 l z=dq (L.map (chk f)) z:=by
       have h1:=gP es z (L.map (chk f)) 0 fun j hj=>by
        rw[List.length_map] at hj
        rw[Nat.zero_add,List.getElem_map]
        exact hes0 j hj
       rw[List.length_map,←hlen] at h1
       exact h1
      rw[←e2]
      refine fun w' k=>⟨?_,?_⟩
      ·refine cZ n s (some ⟨b,off,none⟩) l c lists _ w' fun w2 k2=>?_
       have kk:=af k k2
       refine eV 4 n s b off l c lists es (cK w b off) z w2 hz0 hz1 hz2 (by omega) (by omega) (by omega) (by have:=kk.size;omega) (dl hL.listAt hb kk) fun i hi w3 k3=>?_
       have:=(hes i hi w3 (af kk k3)).1
       rw[show((lists+1:Nat):Int)=(lists:Int)+1 from by omega] at this
       exact this
      ·first
       | exact trivial
       | (refine jW n s b off l c (lists+1) es (cK w b off) z w' hz0 hz1 hz2 (by omega) (by omega) (by omega) (by have:=k.size;omega) (dl hL.listAt hb k) fun i hi w3 k3=>?_
          have:=(hes i hi w3 (af k k3)).2
          rw[show((lists+1:Nat):Int)=(lists:Int)+1 from by omega] at this
          exact this)
   ·have e0:chk (f+1) (.node k n s L)=fq k n s L.length:=by
     unfold chk
     exact if_neg h4
    rw[e0]
    exact oE B w hB hT 0 k n s a l c lists L h4 hs hin hL
theorem gj:∀(E:List Int) (z:Int),dq E z=0 ↔ (∀e ∈ E,e=0)∧z=0
 | [],z=>by simp[dq]
 | e::E,z=>by
   have ih:=gj E z
   unfold dq
   by_cases h:e=0
   ·rw[if_pos h,ih]
    simp[h]
   ·rw[if_neg h]
    simp[h]
theorem nM {k n:Int} {s:ByteArray} {L:List T} (d:Nat) (h4:k≠4) (hin:InT (.node k n s L)):fq k n s L.length=0 ↔ Ck d (.node k n s L):=by
 unfold fq
 constructor
 ·intro h
  split at h
  ·rename_i h3
   subst h3
   split at h
   ·cases h
   ·split at h
    ·rename_i g1 g2
     obtain⟨g2,rfl,g3⟩:=g2
     have:L = []:=List.length_eq_zero_iff.1 g3
     subst this
     exact .text d s (by omega) g2
    ·cases h
  ·split at h
   ·rename_i g1 g2
    obtain⟨g2,rfl,g3⟩:=g2
    have:L = []:=List.length_eq_zero_iff.1 g3
    subst this
    unfold InT at hin
    rcases g2 with⟨rfl,rfl⟩ | ⟨rfl,g⟩ | rfl
    ·exact .null d
    ·exact .bool d n g
    ·exact .int d n hin.1.1 hin.1.2
   ·cases h
 ·intro h
  cases h with
  | null=>simp
  | bool _ _ g=>simp[g]
  | int=>simp
  | text _ _ g0 g1=>simp[g1];omega
  | list=>exact absurd rfl h4
theorem jh:∀(d:Nat) (t:T),InT t→(chk d t=0 ↔ Ck d t)
 | 0,.node k n s L,hin=>by
   unfold chk
   by_cases h4:k=4
   ·rw[if_pos h4]
    subst h4
    exact⟨fun h=>(by cases h),fun h=>(by cases h)⟩
   ·rw[if_neg h4]
    exact nM 0 h4 hin
 | f+1,.node k n s L,hin=>by
   unfold chk
   by_cases h4:k=4
   ·rw[if_pos h4]
    subst h4
    have hL:InL L:=by unfold InT at hin;exact hin.2
    by_cases hm:30<L.length
    ·rw[if_pos hm]
     exact⟨fun h=>(by cases h),fun h=>by cases h with | list _ _ g0 _=>omega⟩
    ·rw[if_neg hm,gj]
     constructor
     ·rintro⟨h1,h2⟩
      unfold qE at h2
      split at h2
      ·rename_i g
       obtain⟨rfl,rfl⟩:=g
       exact .list f L (by omega) fun t ht=>(jh f t (hL.mem ht)).1 (h1 _ (List.mem_map.2 ⟨t,ht,rfl⟩))
      ·cases h2
     ·intro h
      cases h with
      | list _ _ g0 g1=>
        refine⟨fun e he=>?_,rfl⟩
        obtain⟨t,ht,rfl⟩:=List.mem_map.1 he
        exact(jh f t (hL.mem ht)).2 (g1 t ht)
   ·rw[if_neg h4]
    exact nM (f+1) h4 hin
end Go.Proofs.YtijjpoohhgapoaaGreatDoor

import Derived.Test.YtijjpoohhgapoaaGreatDoorVQAY
namespace Go.Proofs.YtijjpoohhgapoaaGreatDoor
open Go.RowKit
set_option linter.unusedVariables false
set_option maxHeartbeats 4000000
set_option maxRecDepth 100000
open Value renaming slice → C, string → D, int → G, agg → M, tuple → O
open IntKind renaming i64 → F
open Obj renaming cells → H
open Ending renaming returned → I
open Nat renaming le_refl → J
open RowKit.Below renaming refl → K
open Bool renaming eq_iff_iff → P
theorem jU {env:ByteArray→Option Th} (d:Nat) (v:T) (nm:ByteArray) (A:List Tm):bi env (d+1) (.node 1 v nm A)=g9 nm A v:=if_pos rfl
theorem dA {env:ByteArray→Option Th} {d:Nat} {k:Int} {v:T} {nm:ByteArray} {A:List Tm} (hk:k≠1) (h:¬v=aw):bi env (d+1) (.node k v nm A)=6:=by
 show(if _ then _ else if _ then _ else _)=_
 rw[if_neg hk,if_neg (by rw[bT];exact h)]
theorem jT {env:ByteArray→Option Th} {d:Nat} {v:T} {nm:ByteArray} {A:List Tm} (h:v=aw):bi env (d+1) (.node 2 v nm A)=kZ env nm A:=by
 show(if _ then _ else if _ then (if _ then _ else _) else _)=_
 rw[if_neg (by decide),if_pos (by rw[bT];exact h),if_pos rfl]
theorem jS {env:ByteArray→Option Th} {d:Nat} {v:T} {nm:ByteArray} {A:List Tm} (h:v=aw):bi env (d+1) (.node 3 v nm A)=fy (bi env d) nm A:=by
 show(if _ then _ else if _ then (if _ then _ else if _ then _ else _) else _)=_
 rw[if_neg (by decide),if_pos (by rw[bT];exact h),if_neg (by decide),if_pos rfl]
theorem jR {env:ByteArray→Option Th} {d:Nat} {v:T} {nm:ByteArray} {A:List Tm} (h:v=aw):bi env (d+1) (.node 4 v nm A)=iJ env (bi env d) A (bN nm):=by
 show(if _ then _ else if _ then (if _ then _ else if _ then _ else if _ then _ else _) else _)=_
 rw[if_neg (by decide),if_pos (by rw[bT];exact h),if_neg (by decide),if_neg (by decide),if_pos rfl]
theorem jQ {env:ByteArray→Option Th} {d:Nat} {k:Int} {v:T} {nm:ByteArray} {A:List Tm} (h1:¬k=1) (h2:¬k=2) (h3:¬k=3) (h4:¬k=4):bi env (d+1) (.node k v nm A)=6:=by
 show(if _ then _ else if _ then (if _ then _ else if _ then _ else if _ then _ else _) else _)=_
 rw[if_neg h1,if_neg h2,if_neg h3,if_neg h4]
 split<;>rfl
theorem eH {env:ByteArray→Option Th}:∀(d:Nat) (t:Tm),InM t→(bi env d t=0 ↔ aS env d t)
 | 0,t,_=>⟨fun h=>(by cases h),fun h=>h.elim⟩
 | d+1,.node k v nm A,hI=>by
   have hI':InT v∧gr A:=by unfold InM at hI;exact hI
   obtain⟨vk,vn,vs,Lv⟩:=v
   by_cases h1:k=1
   ·subst h1
    rw[jU,mp]
    unfold g9
    by_cases hc:nm=⟨#[]⟩∧A.length=0∧aS.kT0 (.node vk vn vs Lv)≠4
    ·rw[if_pos hc,jh 6 _ hI'.1]
     exact⟨fun h=>⟨i5.2 hc.1,List.length_eq_zero_iff.1 hc.2.1,hc.2.2,h⟩,fun h=>h.2.2.2⟩
    ·rw[if_neg hc]
     exact⟨fun h=>(by cases h),fun h=>absurd ⟨i5.1 h.1,by rw[h.2.1];rfl,h.2.2.1⟩ hc⟩
   by_cases hv:(.node vk vn vs Lv:T)=aw
   ·by_cases h2:k=2
    ·subst h2
     rw[jT hv,mo]
     unfold kZ
     by_cases hc:A.length=0∧cW nm=true
     ·rw[if_pos hc]
      by_cases hs:(env nm).isSome=true
      ·rw[if_pos hs]
       exact⟨fun _=>⟨hv,List.length_eq_zero_iff.1 hc.1,hc.2,hs⟩,fun _=>rfl⟩
      ·rw[if_neg hs]
       exact⟨fun h=>(by cases h),fun h=>absurd h.2.2.2 hs⟩
     ·rw[if_neg hc]
      exact⟨fun h=>(by cases h),fun h=>absurd ⟨by rw[h.2.1];rfl,h.2.2.1⟩ hc⟩
    by_cases h3:k=3
    ·subst h3
     rw[jS hv,pZ]
     cases A with
     | nil=>exact⟨fun h=>(by cases h),fun⟨_,_,x,hx,_⟩=>by cases hx⟩
     | cons x r=>
       cases r with
       | cons y r=>exact⟨fun h=>(by cases h),fun⟨_,_,x,hx,_⟩=>by cases hx⟩
       | nil=>
         have ih:=eH (env:=env) d x (by have:=hI'.2;unfold gr at this;exact this.1)
         show(if x.kind=2∧Go.Proofs.YtijjpoohhgapoaaGreatDoor.nm nm=true then bi env d x else 6)=0 ↔ _
         by_cases hc:x.kind=2∧Go.Proofs.YtijjpoohhgapoaaGreatDoor.nm nm=true
         ·rw[if_pos hc,ih]
          exact⟨fun h=>⟨hv,hc.2,x,rfl,hc.1,h⟩,fun⟨_,_,y,hy,_,h⟩=>by injection hy with hy;subst hy;exact h⟩
         ·rw[if_neg hc]
          exact⟨fun h=>(by cases h),fun⟨_,hn,y,hy,hk,_⟩=>by injection hy with hy;subst hy;exact absurd ⟨hk,hn⟩ hc⟩
    by_cases h4:k=4
    ·subst h4
     rw[jR hv,mn]
     have ih:∀x ∈ A,(bi env d x=0 ↔ aS env d x):=fun x hx=>eH (env:=env) d x (hI'.2.mem hx)
     cases ho:bN nm with
     | none=>exact⟨fun h=>(by cases h),fun⟨_,_,_,i,hi,_⟩=>by cases hi⟩
     | some o=>
       show(if an o = -1∨an o=A.length then (if 30<A.length then 2 else dq (A.map (bi env d)) (gN env o A)) else 6)=0 ↔ _
       by_cases hc:an o = -1∨an o=A.length
       ·rw[if_pos hc]
        by_cases h30:30<A.length
        ·rw[if_pos h30]
         exact⟨fun h=>(by cases h),fun h=>by have:=h.2.1;omega⟩
        ·rw[if_neg h30,gj]
         have hm:(∀e ∈ A.map (bi env d),e=0) ↔ ∀x ∈ A,aS env d x:=⟨fun h x hx=>(ih x hx).1 (h _ (List.mem_map.2 ⟨x,hx,rfl⟩)),fun h e he=>by
          obtain⟨x,hx,rfl⟩:=List.mem_map.1 he
          exact(ih x hx).2 (h x hx)⟩
         have hle:gN env o A=0 ↔ (o=15→∃x r,A=x::r∧x.kind=2)∧(o=16→∃x r,A=x::r∧x.kind=2∧((env x.name).getD Th.zero).edge=true):=by
          cases A with
          | nil=>
            refine⟨fun _=>⟨fun e=>?_,fun e=>?_⟩,fun _=>rfl⟩<;>(subst e;rcases hc with h | h<;>exact absurd h (by decide))
          | cons x r=>
            show(if o=15∧x.kind≠2∨o=16∧ck env x.kind x.name=false then (3:Int) else 0)=0 ↔ _
            by_cases hq:o=15∧x.kind≠2∨o=16∧ck env x.kind x.name=false
            ·rw[if_pos hq]
             refine⟨fun h=>(by cases h),fun⟨g1,g2⟩=>?_⟩
             rcases hq with⟨e,hk⟩ | ⟨e,hk⟩
             ·obtain⟨y,r',hy,hy2⟩:=g1 e
              injection hy with hy _
              subst hy
              exact absurd hy2 hk
             ·obtain⟨y,r',hy,hy2,hy3⟩:=g2 e
              injection hy with hy _
              subst hy
              simp[ck,hy2,hy3] at hk
            ·rw[if_neg hq]
             refine⟨fun _=>⟨fun e=>⟨x,r,rfl,?_⟩,fun e=>⟨x,r,rfl,?_⟩⟩,fun _=>rfl⟩
             ·by_cases hk:x.kind=2
              ·exact hk
              ·exact absurd (.inl ⟨e,hk⟩) hq
             ·have hb:ck env x.kind x.name=true:=by
               cases hb:ck env x.kind x.name with
               | true=>rfl
               | false=>exact absurd (.inr ⟨e,hb⟩) hq
              simpa[ck] using hb
         rw[hm,hle]
         exact⟨fun⟨g1,g2,g3⟩=>⟨hv,by omega,g1,o,rfl,hc,g2,g3⟩,fun⟨_,_,g1,i,hi,_,g2,g3⟩=>by injection hi with hi;subst hi;exact⟨g1,g2,g3⟩⟩
       ·rw[if_neg hc]
        exact⟨fun h=>(by cases h),fun⟨_,_,_,i,hi,h,_⟩=>by injection hi with hi;subst hi;exact absurd h hc⟩
    rw[jQ h1 h2 h3 h4]
    exact⟨fun h=>(by cases h),fun⟨_,h⟩=>by rcases h with⟨h,_⟩ | ⟨h,_⟩ | ⟨h,_⟩ | ⟨h,_⟩<;>contradiction⟩
   ·rw[dA h1 hv]
    exact⟨fun h=>(by cases h),fun h=>absurd (h.1 h1) hv⟩
theorem hZ {env:ByteArray→Option Th} {B:Nat}:∀(d:Nat) (w0 w:World) (k vk vn:Int) (vs:ByteArray) (va:Option Addr) (vl vc:Nat) (nm:ByteArray) (a:Option Addr) (l c:Nat) (Lv:List T) (A:List Tm) (bm m bk:Nat) (tm:Int) (hw:Below w0.heap.size w0 w) (hB:B≤w0.heap.size) (hT:bD B w0) (ht:bd w0 k vk vn vs va vl vc nm a l c Lv A) (hn:bI w0 m env) (hb:dr w0 bm bk) (hI:InM (.node k (.node vk vn vs Lv) nm A)) (hd:d≤6) (htm:tm=6-(d:Int)),Calls Tryz.prog 56 #[.map (some bm),M #[G F k,G F vk,G F vn,D vs,C va vl vc,D nm,C a l c],.map (some m),G F tm] w fun e w'=>(e=I (G F (bi env d (.node k (.node vk vn vs Lv) nm A))))∧Below w.heap.size w w'
 | 0,w0,w,k,vk,vn,vs,va,vl,vc,nm,a,l,c,Lv,A,bm,m,bk,tm,hw,hB,hT,ht,hn,hb,hI,hd,htm=>by
   obtain⟨X,hX⟩:∃z,z=bi env 0 (.node k (.node vk vn vs Lv) nm A):=⟨_,rfl⟩
   rw[←hX]
   have HX:=aa hX
   clear hX
   have h6:(6:Int)≤tm:=by rw[htm];decide
   clear ht hn hb hI hT hw hB htm hd
   have hb0:Below w.heap.size w (w.alloc (H #[G F k,G F vk,G F vn,D vs,C va vl vc,D nm,C a l c] 33)):=(K _ _).alloc (J _) _
   have HB:=aa hb0
   clear hb0
   go_enter Tryz.func56,Tryz.ntmps56
   go_wp2_with fail
   go_ret
   exact⟨ag (show X=2 from HX.out).symm,HB.out⟩
 | d+1,w0,w,k,vk,vn,vs,va,vl,vc,nm,a,l,c,Lv,A,bm,m,bk,tm,hw,hB,hT,ht,hn,hb,hI,hd,htm=>by
   obtain⟨X,hX⟩:∃z,z=bi env (d+1) (.node k (.node vk vn vs Lv) nm A):=⟨_,rfl⟩
   rw[←hX]
   have HX:=aa hX
   clear hX
   have htm':tm=5-(d:Int):=by omega
   have h6:¬(6:Int)≤tm:=by omega
   have ht0:0≤tm∧tm≤6:=by omega
   have IH:∀(xk xvk xvn:Int) (xvs:ByteArray) (xva:Option Addr) (xvl xvc:Nat) (xnm:ByteArray) (xa:Option Addr) (xl xc:Nat) (Lv:List T) (A':List Tm),bd w0 xk xvk xvn xvs xva xvl xvc xnm xa xl xc Lv A'→.node xk (.node xvk xvn xvs Lv) xnm A' ∈ A→∀W,Below w0.heap.size w0 W→Calls Tryz.prog 56 #[.map (some bm),M #[G F xk,G F xvk,G F xvn,D xvs,C xva xvl xvc,D xnm,C xa xl xc],.map (some m),G F (tm+1)] W fun e w'=>(e=I (G F (bi env d (.node xk (.node xvk xvn xvs Lv) xnm A'))))∧Below W.heap.size W w':=fun xk xvk xvn xvs xva xvl xvc xnm xa xl xc Lv' A' hta hm W hW=>hZ d w0 W xk xvk xvn xvs xva xvl xvc xnm xa xl xc Lv' A' bm m bk (tm+1) hW hB hT hta hn hb (by have:=hI;unfold InM at this;exact this.2.mem hm) (by omega) (by omega)
   have HIH:=aa IH
   have HT:=aa hT
   have HN:=aa hn
   have HBK:=aa hb
   have HTA:=aa ht
   have HIN:=aa hI
   have HT0:=aa ht0
   clear IH hn hb hT hI htm htm' hd ht0
   by_cases hk1:k=1
   ·subst hk1
    have hb0:Below w.heap.size w (w.alloc (H #[G F 1,G F vk,G F vn,D vs,C va vl vc,D nm,C a l c] 33)):=(K _ _).alloc (J _) _
    have h0:=ae w (H #[G F 1,G F vk,G F vn,D vs,C va vl vc,D nm,C a l c] 33)
    have hz:(w.alloc (H #[G F 1,G F vk,G F vn,D vs,C va vl vc,D nm,C a l c] 33)).heap.size=w.heap.size+1:=by simp
    have HB:=aa hb0
    have H0:=aa h0
    have HZ:=aa hz
    have HBW:=aa (hw.trans (hb0.mono hw.size))
    clear hb0 h0 hz
    have hi:InT (.node vk vn vs Lv):=by have:=HIN.out;unfold InM at this;exact this.1
    have HC:=aa (oo w0 _ 1 vk vn vs va vl vc nm a l c Lv A HBW.out hB HT.out HTA.out hi)
    clear ht hi hw
    go_enter Tryz.func56,Tryz.ntmps56
    go_wp2_with fail
    refine HC.out.mono ?_
    rintro e u2 ⟨rfl,k2⟩
    have HB2:=aa (af HB.out k2)
    clear k2
    go_wp2_with fail
    go_ret
    exact⟨ag (show X=_ from HX.out.trans (jU ..)).symm,HB2.out⟩
   by_cases hk2:k=2
   ·subst hk2
    clear hk1
    have hb0:Below w.heap.size w (w.alloc (H #[G F 2,G F vk,G F vn,D vs,C va vl vc,D nm,C a l c] 33)):=(K _ _).alloc (J _) _
    have h0:=ae w (H #[G F 2,G F vk,G F vn,D vs,C va vl vc,D nm,C a l c] 33)
    have hz:(w.alloc (H #[G F 2,G F vk,G F vn,D vs,C va vl vc,D nm,C a l c] 33)).heap.size=w.heap.size+1:=by simp
    have HB:=aa hb0
    have H0:=aa h0
    have HZ:=aa hz
    have HBW:=aa (hw.trans (hb0.mono hw.size))
    clear hb0 h0 hz
    obtain⟨be,hbe⟩:∃z:Bool,(z=true ↔ vk=0∧vn=0∧vs=⟨#[]⟩∧vl=0):=by
     by_cases h:vk=0∧vn=0∧vs=⟨#[]⟩∧vl=0
     ·exact⟨true,by simp[h]⟩
     ·exact⟨false,⟨fun e=>(by cases e),fun e=>absurd e h⟩⟩
    have HE:Hid (∀W,Calls Tryz.prog 84 #[vC vk vn vs va vl vc] W fun e w'=>e=I (.bool be)∧Below W.heap.size W w'):=fun W=>dm (hM vk vn vs va vl vc W) fun e w' h=>by
     obtain⟨⟨z,h1,h2⟩,h3⟩:=h
     have:z=be:=by rw[P,h2,hbe]
     exact⟨by rw[h1,this],h3⟩
    have HNU:Hid (be=true ↔ T.node vk vn vs Lv=aw):=hbe.trans (it ht.val)
    clear hbe
    go_enter Tryz.func56,Tryz.ntmps56
    go_wp2_with fail
    refine(HE.out _).mono ?_
    generalize w.alloc (H #[G F 2,G F vk,G F vn,D vs,C va vl vc,D nm,C a l c] 33)=W at HB H0 HZ HBW ⊢
    rintro e u1 ⟨rfl,k1⟩
    have HBB:=aa (af HB.out k1)
    have HW1:Hid (Below w0.heap.size w0 u1):=HBW.out.trans (k1.mono HBW.out.size)
    have h0:=(k1.block w.heap.size (by rw[HZ.out];omega)).trans H0.out
    obtain⟨c0,c1,c2,c3,c4,c5,c6⟩:=bV h0
    simp at c0 c1 c2 c3 c4 c5 c6
    have hsz:w.heap.size<u1.heap.size:=lt_block' h0
    clear h0 k1
    cases be with
    | false=>
      go_wp2_with fail
      go_ret
      exact⟨ag (show X=6 from HX.out.trans (dA (by decide) (fun h=>by have:=HNU.out.2 h;cases this))).symm,HBB.out⟩
    | true=>
      have HC:=aa (qL w0 u1 2 vk vn vs va vl vc nm a l c Lv A m HW1.out HTA.out HN.out)
      go_wp2_with fail
      refine HC.out.mono ?_
      rintro e u2 ⟨rfl,k2⟩
      have HB2:=aa (af HBB.out k2)
      clear k2
      go_wp2_with fail
      go_ret
      exact⟨ag (show X=_ from HX.out.trans (jT (HNU.out.1 (by first | rfl | trivial)))).symm,HB2.out⟩
   by_cases hk3:k=3
   ·subst hk3
    clear hk1 hk2
    have hb0:Below w.heap.size w (w.alloc (H #[G F 3,G F vk,G F vn,D vs,C va vl vc,D nm,C a l c] 33)):=(K _ _).alloc (J _) _
    have h0:=ae w (H #[G F 3,G F vk,G F vn,D vs,C va vl vc,D nm,C a l c] 33)
    have hz:(w.alloc (H #[G F 3,G F vk,G F vn,D vs,C va vl vc,D nm,C a l c] 33)).heap.size=w.heap.size+1:=by simp
    have HB:=aa hb0
    have H0:=aa h0
    have HZ:=aa hz
    have HBW:=aa (hw.trans (hb0.mono hw.size))
    clear hb0 h0 hz
    obtain⟨be,hbe⟩:∃z:Bool,(z=true ↔ vk=0∧vn=0∧vs=⟨#[]⟩∧vl=0):=by
     by_cases h:vk=0∧vn=0∧vs=⟨#[]⟩∧vl=0
     ·exact⟨true,by simp[h]⟩
     ·exact⟨false,⟨fun e=>(by cases e),fun e=>absurd e h⟩⟩
    have HE:Hid (∀W,Calls Tryz.prog 84 #[vC vk vn vs va vl vc] W fun e w'=>e=I (.bool be)∧Below W.heap.size W w'):=fun W=>dm (hM vk vn vs va vl vc W) fun e w' h=>by
     obtain⟨⟨z,h1,h2⟩,h3⟩:=h
     have:z=be:=by rw[P,h2,hbe]
     exact⟨by rw[h1,this],h3⟩
    have HNU:Hid (be=true ↔ T.node vk vn vs Lv=aw):=hbe.trans (it ht.val)
    clear hbe
    go_enter Tryz.func56,Tryz.ntmps56
    go_wp2_with fail
    refine(HE.out _).mono ?_
    generalize w.alloc (H #[G F 3,G F vk,G F vn,D vs,C va vl vc,D nm,C a l c] 33)=W at HB H0 HZ HBW ⊢
    rintro e u1 ⟨rfl,k1⟩
    have HBB:=aa (af HB.out k1)
    have HW1:Hid (Below w0.heap.size w0 u1):=HBW.out.trans (k1.mono HBW.out.size)
    have h0:=(k1.block w.heap.size (by rw[HZ.out];omega)).trans H0.out
    obtain⟨c0,c1,c2,c3,c4,c5,c6⟩:=bV h0
    simp at c0 c1 c2 c3 c4 c5 c6
    have hsz:w.heap.size<u1.heap.size:=lt_block' h0
    clear h0 k1
    cases be with
    | false=>
      go_wp2_with fail
      go_ret
      exact⟨ag (show X=6 from HX.out.trans (dA (by decide) (fun h=>by have:=HNU.out.2 h;cases this))).symm,HBB.out⟩
    | true=>
      have HC:=aa (ob w0 u1 3 vk vn vs va vl vc nm a l c Lv A bm m tm HW1.out HTA.out HT0.out HIH.out)
      go_wp2_with fail
      refine HC.out.mono ?_
      rintro e u2 ⟨rfl,k2⟩
      have HB2:=aa (af HBB.out k2)
      clear k2
      go_wp2_with fail
      go_ret
      exact⟨ag (show X=_ from HX.out.trans (jS (HNU.out.1 (by first | rfl | trivial)))).symm,HB2.out⟩
   by_cases hk4:k=4
   ·subst hk4
    clear hk1 hk2 hk3
    have hb0:Below w.heap.size w (w.alloc (H #[G F 4,G F vk,G F vn,D vs,C va vl vc,D nm,C a l c] 33)):=(K _ _).alloc (J _) _
    have h0:=ae w (H #[G F 4,G F vk,G F vn,D vs,C va vl vc,D nm,C a l c] 33)
    have hz:(w.alloc (H #[G F 4,G F vk,G F vn,D vs,C va vl vc,D nm,C a l c] 33)).heap.size=w.heap.size+1:=by simp
    have HB:=aa hb0
    have H0:=aa h0
    have HZ:=aa hz
    have HBW:=aa (hw.trans (hb0.mono hw.size))
    clear hb0 h0 hz
    obtain⟨be,hbe⟩:∃z:Bool,(z=true ↔ vk=0∧vn=0∧vs=⟨#[]⟩∧vl=0):=by
     by_cases h:vk=0∧vn=0∧vs=⟨#[]⟩∧vl=0
     ·exact⟨true,by simp[h]⟩
     ·exact⟨false,⟨fun e=>(by cases e),fun e=>absurd e h⟩⟩
    have HE:Hid (∀W,Calls Tryz.prog 84 #[vC vk vn vs va vl vc] W fun e w'=>e=I (.bool be)∧Below W.heap.size W w'):=fun W=>dm (hM vk vn vs va vl vc W) fun e w' h=>by
     obtain⟨⟨z,h1,h2⟩,h3⟩:=h
     have:z=be:=by rw[P,h2,hbe]
     exact⟨by rw[h1,this],h3⟩
    have HNU:Hid (be=true ↔ T.node vk vn vs Lv=aw):=hbe.trans (it ht.val)
    clear hbe
    go_enter Tryz.func56,Tryz.ntmps56
    go_wp2_with fail
    refine(HE.out _).mono ?_
    generalize w.alloc (H #[G F 4,G F vk,G F vn,D vs,C va vl vc,D nm,C a l c] 33)=W at HB H0 HZ HBW ⊢
    rintro e u1 ⟨rfl,k1⟩
    have HBB:=aa (af HB.out k1)
    have HW1:Hid (Below w0.heap.size w0 u1):=HBW.out.trans (k1.mono HBW.out.size)
    have h0:=(k1.block w.heap.size (by rw[HZ.out];omega)).trans H0.out
    obtain⟨c0,c1,c2,c3,c4,c5,c6⟩:=bV h0
    simp at c0 c1 c2 c3 c4 c5 c6
    have hsz:w.heap.size<u1.heap.size:=lt_block' h0
    clear h0 k1
    cases be with
    | false=>
      go_wp2_with fail
      go_ret
      exact⟨ag (show X=6 from HX.out.trans (dA (by decide) (fun h=>by have:=HNU.out.2 h;cases this))).symm,HBB.out⟩
    | true=>
      have HC:=aa (pH w0 u1 4 vk vn vs va vl vc nm a l c Lv A bm m bk tm HW1.out HTA.out HN.out HBK.out HT0.out HIH.out)
      go_wp2_with fail
      refine HC.out.mono ?_
      rintro e u2 ⟨rfl,k2⟩
      have HB2:=aa (af HBB.out k2)
      clear k2
      go_wp2_with fail
      go_ret
      exact⟨ag (show X=_ from HX.out.trans (jR (HNU.out.1 (by first | rfl | trivial)))).symm,HB2.out⟩
   have HX6:Hid (X=6):=HX.out.trans (jQ hk1 hk2 hk3 hk4)
   have q1:(k==1)=false:=by simp[hk1]
   have q1':(k != 1)=true:=by simp[hk1]
   have q2:(k==2)=false:=by simp[hk2]
   have q3:(k==3)=false:=by simp[hk3]
   have q4:(k==4)=false:=by simp[hk4]
   have hb0:Below w.heap.size w (w.alloc (H #[G F k,G F vk,G F vn,D vs,C va vl vc,D nm,C a l c] 33)):=(K _ _).alloc (J _) _
   have h0:=ae w (H #[G F k,G F vk,G F vn,D vs,C va vl vc,D nm,C a l c] 33)
   have hz:(w.alloc (H #[G F k,G F vk,G F vn,D vs,C va vl vc,D nm,C a l c] 33)).heap.size=w.heap.size+1:=by simp
   have HB:=aa hb0
   have H0:=aa h0
   have HZ:=aa hz
   have HBW:=aa (hw.trans (hb0.mono hw.size))
   clear hb0 h0 hz
   obtain⟨be,hbe⟩:∃z:Bool,(z=true ↔ vk=0∧vn=0∧vs=⟨#[]⟩∧vl=0):=by
    by_cases h:vk=0∧vn=0∧vs=⟨#[]⟩∧vl=0
    ·exact⟨true,by simp[h]⟩
    ·exact⟨false,⟨fun e=>(by cases e),fun e=>absurd e h⟩⟩
   have HE:Hid (∀W,Calls Tryz.prog 84 #[vC vk vn vs va vl vc] W fun e w'=>e=I (.bool be)∧Below W.heap.size W w'):=fun W=>dm (hM vk vn vs va vl vc W) fun e w' h=>by
    obtain⟨⟨z,h1,h2⟩,h3⟩:=h
    have:z=be:=by rw[P,h2,hbe]
    exact⟨by rw[h1,this],h3⟩
   have HNU:Hid (be=true ↔ T.node vk vn vs Lv=aw):=hbe.trans (it ht.val)
   clear hbe
   go_enter Tryz.func56,Tryz.ntmps56
   go_wp2_with fail
   refine(HE.out _).mono ?_
   generalize w.alloc (H #[G F k,G F vk,G F vn,D vs,C va vl vc,D nm,C a l c] 33)=W at HB H0 HZ HBW ⊢
   rintro e u1 ⟨rfl,k1⟩
   have HBB:=aa (af HB.out k1)
   have HW1:Hid (Below w0.heap.size w0 u1):=HBW.out.trans (k1.mono HBW.out.size)
   have h0:=(k1.block w.heap.size (by rw[HZ.out];omega)).trans H0.out
   obtain⟨c0,c1,c2,c3,c4,c5,c6⟩:=bV h0
   simp at c0 c1 c2 c3 c4 c5 c6
   have hsz:w.heap.size<u1.heap.size:=lt_block' h0
   clear h0 k1
   cases be with
   | false=>
     go_wp2_with fail
     go_ret
     exact⟨ag HX6.out.symm,HBB.out⟩
   | true=>
     go_wp2_with fail
     go_ret
     exact⟨ag HX6.out.symm,HBB.out⟩
theorem nE {env:ByteArray→Option Th} {B:Nat} (w0 w:World) (k vk vn:Int) (vs:ByteArray) (va:Option Addr) (vl vc:Nat) (nm:ByteArray) (a:Option Addr) (l c:Nat) (Lv:List T) (A:List Tm) (bm m bk:Nat) (hw:Below w0.heap.size w0 w) (hB:B≤w0.heap.size) (hT:bD B w0) (ht:bd w0 k vk vn vs va vl vc nm a l c Lv A) (hn:bI w0 m env) (hb:dr w0 bm bk) (hI:InM (.node k (.node vk vn vs Lv) nm A)):Calls Tryz.prog 16 #[.map (some bm),M #[G F k,G F vk,G F vn,D vs,C va vl vc,D nm,C a l c],.map (some m)] w fun e w'=>(e=I (G F (bi env 6 (.node k (.node vk vn vs Lv) nm A))))∧Below w.heap.size w w':=by
 have hb0:Below w.heap.size w (w.alloc (H #[G F k,G F vk,G F vn,D vs,C va vl vc,D nm,C a l c] 33)):=(K _ _).alloc (J _) _
 have HB:=aa hb0
 have HC:=aa (hZ 6 w0 _ k vk vn vs va vl vc nm a l c Lv A bm m bk 0 (hw.trans (hb0.mono hw.size)) hB hT ht hn hb hI (J _) (by decide))
 clear hw hT ht hn hb hI hb0 hB
 go_enter Tryz.func16,Tryz.ntmps16
 go_wp2_with fail
 refine HC.out.mono ?_
 rintro e u2 ⟨rfl,k2⟩
 have HB2:=aa (af HB.out k2)
 clear k2
 go_wp2_with fail
 go_ret
 exact⟨rfl,HB2.out⟩
theorem o8 (id:Int) (la:Option Addr) (ll lc:Nat) (pa:Option Addr) (pl pc:Nat) (w:World):Calls Tryz.prog 75 #[M #[G F id,C la ll lc,C pa pl pc]] w fun e w'=>e=I (M #[.bool false,G F id,D ⟨#[]⟩,C pa pl pc])∧Below w.heap.size w w':=by
 go_enter Tryz.func75,Tryz.ntmps75
 go_wp2_with fail
 have hbb:Below w.heap.size w ((w.alloc (H #[G F id,C la ll lc,C pa pl pc] 61)).alloc (H #[.bool false,G F id,D ⟨#[]⟩,C pa pl pc] 78)):=((K _ _).alloc (J _) _).alloc (by simp) _
 exact bodyPost_ret (v:=M #[.bool false,G F id,D ⟨#[]⟩,C pa pl pc]) (by simp[results,Tryz.results75,go_sem]) rfl ⟨rfl,hbb⟩
theorem o9 (id frm dst:Int) (typ:ByteArray) (pa:Option Addr) (pl pc:Nat) (w:World):Calls Tryz.prog 77 #[M #[G F id,G F frm,G F dst,D typ,C pa pl pc]] w fun e w'=>e=I (M #[.bool true,G F id,D typ,C pa pl pc])∧Below w.heap.size w w':=by
 go_enter Tryz.func77,Tryz.ntmps77
 go_wp2_with fail
 have hbb:Below w.heap.size w ((w.alloc (H #[G F id,G F frm,G F dst,D typ,C pa pl pc] 65)).alloc (H #[.bool true,G F id,D typ,C pa pl pc] 78)):=((K _ _).alloc (J _) _).alloc (by simp) _
 exact bodyPost_ret (v:=M #[.bool true,G F id,D typ,C pa pl pc]) (by simp[results,Tryz.results77,go_sem]) rfl ⟨rfl,hbb⟩
structure ThR where
 edge:Bool
 id:Int
 typ:ByteArray
 pa:Option Addr
 pl:Nat
 pc:Nat
def ThR.val (x:ThR):Value:=M #[.bool x.edge,G F x.id,D x.typ,C x.pa x.pl x.pc]
def ThR.zero:ThR:=⟨false,0,⟨#[]⟩,none,0,0⟩
def Nd.tr (x:Nd):ThR:=⟨false,x.id,⟨#[]⟩,x.pa,x.pl,x.pc⟩
def Ed.tr (x:Ed):ThR:=⟨true,x.id,x.typ,x.pa,x.pl,x.pc⟩
def bg (N:List Nd) (E:List Ed) (id:Int):Option ThR:=
 match N.find? (fun x=>x.id==id) with
 | some x=>some x.tr
 | none=>(E.find? (fun x=>x.id==id)).map Ed.tr
theorem gD {α:Type} {g:α→Int} {L:List α} (h:ez (L.map g)) {i:Nat} {x:α} {id:Int} (hx:L[i]? = some x) (hid:g x=id):L.find? (fun y=>g y==id)=some x:=by
 obtain⟨hi,hxi⟩:=List.getElem?_eq_some_iff.1 hx
 rw[List.find?_eq_some_iff_getElem]
 refine⟨by simp[hid],i,hi,hxi,fun j hj=>?_⟩
 have hjl:j<L.length:=by omega
 have:=h j i (g L[j]) (g x) hj (by rw[List.getElem?_map,List.getElem?_eq_getElem hjl];rfl) (by rw[List.getElem?_map,hx];rfl)
 have hne:¬g L[j]=id:=by omega
 simp[hne]
theorem iD {α:Type} {g:α→Int} {L:List α} {id:Int} (h:id ∉ L.map g):L.find? (fun y=>g y==id)=none:=by
 rw[List.find?_eq_none]
 intro y hy
 have:¬g y=id:=fun e=>h (List.mem_map.2 ⟨y,hy,e⟩)
 simp[this]
theorem sD {α:Type} {g:α→Int} {L:List α} {i:Nat} {id:Int} (h:(L.map g)[i]? = some id):∃x,L[i]? = some x∧g x=id:=by
 rw[List.getElem?_map] at h
 cases hx:L[i]? with
 | none=>rw[hx] at h;cases h
 | some x=>rw[hx] at h;exact⟨x,rfl,by simpa using h⟩
theorem qS (w0 w:World) (N:List Nd) (E:List Ed) (na:Option Addr) (nl nc:Nat) (ea:Option Addr) (el ec:Nat) (next id:Int) (hw:Below w0.heap.size w0 w) (hN:bF w0 N na nl) (hE:bO w0 E ea el) (h60:nl≤60) (e60:el≤60) (hrN:ez (N.map Nd.id)) (hrE:ez (E.map Ed.id)):Calls Tryz.prog 38 #[M #[C na nl nc,C ea el ec,G F next],G F id] w fun e w'=>e=I (O #[((bg N E id).getD ThR.zero).val,.bool (bg N E id).isSome])∧Below w.heap.size w w':=by
 obtain⟨RV,hRV⟩:∃z,z=((bg N E id).getD ThR.zero).val:=⟨_,rfl⟩
 obtain⟨RB,hRB⟩:∃z,z=(bg N E id).isSome:=⟨_,rfl⟩
 rw[←hRV,←hRB]
 have hb2:Below w.heap.size w ((w.alloc (H #[C na nl nc,C ea el ec,G F next] 25)).alloc (H #[.bool false,G F 0,D ⟨#[]⟩,C none 0 0] 78)):=((K _ _).alloc (J _) _).alloc (by simp) _
 have h0:=ay w (H #[C na nl nc,C ea el ec,G F next] 25) (H #[.bool false,G F 0,D ⟨#[]⟩,C none 0 0] 78)
 have h1:((w.alloc (H #[C na nl nc,C ea el ec,G F next] 25)).alloc (H #[.bool false,G F 0,D ⟨#[]⟩,C none 0 0] 78)).heap[w.heap.size]? = some (H #[C na nl nc,C ea el ec,G F next] 25 (0,0)):=by
  have hb:Below (w.heap.size+1) (w.alloc (H #[C na nl nc,C ea el ec,G F next] 25)) ((w.alloc (H #[C na nl nc,C ea el ec,G F next] 25)).alloc (H #[.bool false,G F 0,D ⟨#[]⟩,C none 0 0] 78)):=(K _ _).alloc (by simp) _
  exact(hb.block w.heap.size (by omega)).trans (ae w (H #[C na nl nc,C ea el ec,G F next] 25))
 have hz:((w.alloc (H #[C na nl nc,C ea el ec,G F next] 25)).alloc (H #[.bool false,G F 0,D ⟨#[]⟩,C none 0 0] 78)).heap.size=w.heap.size+2:=by simp
 have HZ:=aa hz
 have HB:=aa hb2
 have H0:=aa h0
 have H1:=aa h1
 have HW:=aa hw
 have HNA:=aa hN
 have HEA:=aa hE
 have HRN:=aa hrN
 have HRE:=aa hrE
 have HC:Hid (∀W,Below w0.heap.size w0 W→Calls Tryz.prog 74 #[C na nl nc,G F id] W fun e w'=>dy (N.map Nd.id) id e∧Below W.heap.size W w'):=fun W k=>lM N na nl nc id W (HNA.out.below k) h60 HRN.out
 have HD:Hid (∀W,Below w0.heap.size w0 W→Calls Tryz.prog 76 #[C ea el ec,G F id] W fun e w'=>dy (E.map Ed.id) id e∧Below W.heap.size W w'):=fun W k=>rz E ea el ec id W (HEA.out.below k) e60 HRE.out
 have HV:=aa hRV
 have HVB:=aa hRB
 clear hb2 h0 h1 hz hw hN hE hrN hrE hRV hRB
 go_enter Tryz.func38,Tryz.ntmps38
 go_wp2_with fail
 refine(HC.out _ (HW.out.trans (HB.out.mono HW.out.size))).mono ?_
 generalize (w.alloc (H #[C na nl nc,C ea el ec,G F next] 25)).alloc (H #[.bool false,G F 0,D ⟨#[]⟩,C none 0 0] 78)=W at HB H0 H1 HZ ⊢
 rintro e u1 ⟨⟨i,fb,rfl,hi,hno⟩,k1⟩
 have HB1:=aa (af HB.out k1)
 have HW1:Hid (Below w0.heap.size w0 u1):=HW.out.trans (HB1.out.mono HW.out.size)
 have h1:=(k1.block w.heap.size (by rw[HZ.out];omega)).trans H1.out
 have h2:=(k1.block (w.heap.size+1) (by rw[HZ.out];omega)).trans H0.out
 have c0:=ac h1 0
 have c1:=ac h1 1
 simp at c0 c1
 have hsz:w.heap.size+1<u1.heap.size:=lt_block' h2
 have H1':=aa h1
 have H2':=aa h2
 cases fb with
 | true=>
   obtain⟨x,hx,hxi⟩:=sD (hi rfl)
   obtain⟨xid,labs,la,ll,lc,props,pa,pl,pc⟩:=x
   have hxi:xid=id:=hxi
   subst hxi
   have hth:bg N E xid=some ⟨false,xid,⟨#[]⟩,pa,pl,pc⟩:=by
    unfold bg
    rw[gD HRN.out hx rfl]
    rfl
   have HRV:Hid (RV=M #[.bool false,G F xid,D ⟨#[]⟩,C pa pl pc]∧RB=true):=by
    rw[HV.out,HVB.out,hth]
    exact⟨rfl,rfl⟩
   have hlen:=HNA.out.1
   have hlt:i<nl:=by rw[hlen];exact(List.getElem?_eq_some_iff.1 hx).1
   obtain⟨b,off,ha,hbl,hcs⟩:=HNA.out.2.2 (by omega)
   obtain⟨e0,e1,e2⟩:=hcs i _ hx
   subst ha
   have d0:u1.cell? ⟨b,off+i*3,none⟩=some (G F xid):=(HW1.out.cell (p:=⟨b,off+i*3,none⟩) hbl).trans e0
   have d1:u1.cell? ⟨b,off+i*3+1,none⟩=some (C la ll lc):=(HW1.out.cell (p:=⟨b,off+i*3+1,none⟩) hbl).trans e1
   have d2:u1.cell? ⟨b,off+i*3+2,none⟩=some (C pa pl pc):=(HW1.out.cell (p:=⟨b,off+i*3+1+1,none⟩) hbl).trans e2
   have hil:(i:Int)<nl:=by omega
   have hi0:(0:Int)≤i:=by omega
   have hbW:b<u1.heap.size:=Nat.lt_of_lt_of_le hbl HW1.out.size
   have hns:nl≤60:=h60
   clear hi hno h1 h2 k1 hx hth e0 e1 e2 hcs hlen HC HD
   go_wp2_with fail
   refine(o8 xid la ll lc pa pl pc u1).mono ?_
   rintro e u2 ⟨rfl,k2⟩
   have hb1:=(k2.block (w.heap.size+1) (by omega)).trans H2'.out
   obtain⟨r0,r1,r2,r3⟩:=ai hb1
   obtain⟨f0,f1,f2,f3⟩:=aq hb1
   simp at r0 r1 r2 r3
   have hs1:w.heap.size+1<u2.heap.size:=lt_block' hb1
   have HBQ:=aa hb1
   have HK:=aa (af HB1.out k2)
   clear hb1 k2 d0 d1 d2 c0 c1
   go_wp2_with fail
   have eP:∀X:World,(((X.setCell ⟨w.heap.size+1,0,none⟩ (.bool false)).setCell ⟨w.heap.size+1,1,none⟩ (G F xid)).setCell ⟨w.heap.size+1,2,none⟩ (D ⟨#[]⟩)).setCell ⟨w.heap.size+1,3,none⟩ (C pa pl pc)=au X (w.heap.size+1) 0 [.bool false,G F xid,D ⟨#[]⟩,C pa pl pc]:=fun _=>rfl
   rw[eP]
   have E:=dh HBQ.out rfl (.bool false) (G F xid) (D ⟨#[]⟩) (C pa pl pc)
   have hbb:Below w.heap.size w (au u2 (w.heap.size+1) 0 [.bool false,G F xid,D ⟨#[]⟩,C pa pl pc]):=HK.out.trans ((aE (w.heap.size+1) _ _ u2).mono (by omega))
   generalize au u2 (w.heap.size+1) 0 [.bool false,G F xid,D ⟨#[]⟩,C pa pl pc]=Y at E hbb ⊢
   obtain⟨t0,t1,t2,t3⟩:=ai E
   simp at t0 t1 t2 t3
   exact bodyPost_ret (v:=O #[M #[.bool false,G F xid,D ⟨#[]⟩,C pa pl pc],.bool true]) (by simp[results,Tryz.results38,go_sem,t0,t1,t2,t3]) rfl ⟨by rw[HRV.out.1,HRV.out.2],hbb⟩
 | false=>
   have HNN:=aa (iD (hno rfl))
   clear hi hno h1 h2 k1 HC
   go_wp2_with fail
   refine(HD.out _ HW1.out).mono ?_
   rintro e u2 ⟨⟨i2,fb,rfl,hi,hno⟩,k2⟩
   have HB2:=aa (af HB1.out k2)
   have HW2:Hid (Below w0.heap.size w0 u2):=HW.out.trans (HB2.out.mono HW.out.size)
   have h1:=(k2.block w.heap.size (by omega)).trans H1'.out
   have h2:=(k2.block (w.heap.size+1) (by omega)).trans H2'.out
   clear c0 c1
   have c1:=ac h1 1
   simp at c1
   have hsz2:w.heap.size+1<u2.heap.size:=lt_block' h2
   have H2q:=aa h2
   cases fb with
   | true=>
     obtain⟨x,hx,hxi⟩:=sD (hi rfl)
     obtain⟨xid,frm,dst,typ,props,pa,pl,pc⟩:=x
     have hxi:xid=id:=hxi
     subst hxi
     have hth:bg N E xid=some ⟨true,xid,typ,pa,pl,pc⟩:=by
      unfold bg
      rw[HNN.out,gD HRE.out hx rfl]
      rfl
     have HRV:Hid (RV=M #[.bool true,G F xid,D typ,C pa pl pc]∧RB=true):=by
      rw[HV.out,HVB.out,hth]
      exact⟨rfl,rfl⟩
     have hlen:=HEA.out.1
     have hlt:i2<el:=by rw[hlen];exact(List.getElem?_eq_some_iff.1 hx).1
     obtain⟨b,off,ha,hbl,hcs⟩:=HEA.out.2.2 (by omega)
     obtain⟨hts,e0,e1,e2,e3,e4⟩:=hcs i2 _ hx
     subst ha
     have d0:u2.cell? ⟨b,off+i2*5,none⟩=some (G F xid):=(HW2.out.cell (p:=⟨b,off+i2*5,none⟩) hbl).trans e0
     have d1:u2.cell? ⟨b,off+i2*5+1,none⟩=some (G F frm):=(HW2.out.cell (p:=⟨b,off+i2*5+1,none⟩) hbl).trans e1
     have d2:u2.cell? ⟨b,off+i2*5+2,none⟩=some (G F dst):=(HW2.out.cell (p:=⟨b,off+i2*5+1+1,none⟩) hbl).trans e2
     have d3:u2.cell? ⟨b,off+i2*5+3,none⟩=some (D typ):=(HW2.out.cell (p:=⟨b,off+i2*5+1+1+1,none⟩) hbl).trans e3
     have d4:u2.cell? ⟨b,off+i2*5+4,none⟩=some (C pa pl pc):=(HW2.out.cell (p:=⟨b,off+i2*5+1+1+1+1,none⟩) hbl).trans e4
     have hil:(i2:Int)<el:=by omega
     have hi0:(0:Int)≤i2:=by omega
     have hbW:b<u2.heap.size:=Nat.lt_of_lt_of_le hbl HW2.out.size
     clear hi hno h1 h2 k2 hx hth e0 e1 e2 e3 e4 hcs hlen HD hts
     go_wp2_with fail
     refine(o9 xid frm dst typ pa pl pc u2).mono ?_
     rintro e u3 ⟨rfl,k3⟩
     have hb1:=(k3.block (w.heap.size+1) (by omega)).trans H2q.out
     obtain⟨r0,r1,r2,r3⟩:=ai hb1
     obtain⟨f0,f1,f2,f3⟩:=aq hb1
     simp at r0 r1 r2 r3
     have hs1:w.heap.size+1<u3.heap.size:=lt_block' hb1
     have HBQ:=aa hb1
     have HK:=aa (af HB2.out k3)
     clear hb1 k3 d0 d1 d2 d3 d4 c1
     go_wp2_with fail
     have eP:∀X:World,(((X.setCell ⟨w.heap.size+1,0,none⟩ (.bool true)).setCell ⟨w.heap.size+1,1,none⟩ (G F xid)).setCell ⟨w.heap.size+1,2,none⟩ (D typ)).setCell ⟨w.heap.size+1,3,none⟩ (C pa pl pc)=au X (w.heap.size+1) 0 [.bool true,G F xid,D typ,C pa pl pc]:=fun _=>rfl
     rw[eP]
     have E:=dh HBQ.out rfl (.bool true) (G F xid) (D typ) (C pa pl pc)
     have hbb:Below w.heap.size w (au u3 (w.heap.size+1) 0 [.bool true,G F xid,D typ,C pa pl pc]):=HK.out.trans ((aE (w.heap.size+1) _ _ u3).mono (by omega))
     generalize au u3 (w.heap.size+1) 0 [.bool true,G F xid,D typ,C pa pl pc]=Y at E hbb ⊢
     obtain⟨t0,t1,t2,t3⟩:=ai E
     simp at t0 t1 t2 t3
     exact bodyPost_ret (v:=O #[M #[.bool true,G F xid,D typ,C pa pl pc],.bool true]) (by simp[results,Tryz.results38,go_sem,t0,t1,t2,t3]) rfl ⟨by rw[HRV.out.1,HRV.out.2],hbb⟩
   | false=>
     have hth:bg N E id=none:=by
      unfold bg
      rw[HNN.out,iD (hno rfl)]
      rfl
     have HRV:Hid (RV=M #[.bool false,G F 0,D ⟨#[]⟩,C none 0 0]∧RB=false):=by
      rw[HV.out,HVB.out,hth]
      exact⟨rfl,rfl⟩
     obtain⟨r0,r1,r2,r3⟩:=ai h2
     obtain⟨f0,f1,f2,f3⟩:=aq h2
     simp at r0 r1 r2 r3
     have HBQ:=aa h2
     have HK:=HB2
     clear hi hno h1 h2 k2 hth HD c1
     go_wp2_with fail
     have eP:∀X:World,(((X.setCell ⟨w.heap.size+1,0,none⟩ (.bool false)).setCell ⟨w.heap.size+1,1,none⟩ (G F 0)).setCell ⟨w.heap.size+1,2,none⟩ (D ⟨#[]⟩)).setCell ⟨w.heap.size+1,3,none⟩ (C none 0 0)=au X (w.heap.size+1) 0 [.bool false,G F 0,D ⟨#[]⟩,C none 0 0]:=fun _=>rfl
     rw[eP]
     have E:=dh HBQ.out rfl (.bool false) (G F 0) (D ⟨#[]⟩) (C none 0 0)
     have hbb:Below w.heap.size w (au u2 (w.heap.size+1) 0 [.bool false,G F 0,D ⟨#[]⟩,C none 0 0]):=HK.out.trans ((aE (w.heap.size+1) _ _ u2).mono (by omega))
     generalize au u2 (w.heap.size+1) 0 [.bool false,G F 0,D ⟨#[]⟩,C none 0 0]=Y at E hbb ⊢
     obtain⟨t0,t1,t2,t3⟩:=ai E
     simp at t0 t1 t2 t3
     exact bodyPost_ret (v:=O #[M #[.bool false,G F 0,D ⟨#[]⟩,C none 0 0],.bool false]) (by simp[results,Tryz.results38,go_sem,t0,t1,t2,t3]) rfl ⟨by rw[HRV.out.1,HRV.out.2],hbb⟩
end Go.Proofs.YtijjpoohhgapoaaGreatDoor

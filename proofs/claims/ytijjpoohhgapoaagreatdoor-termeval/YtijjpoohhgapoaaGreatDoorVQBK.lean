import Derived.Test.YtijjpoohhgapoaaGreatDoorVQBF
namespace Go.Proofs.YtijjpoohhgapoaaGreatDoor
open Go.RowKit
set_option linter.unusedVariables false
set_option maxHeartbeats 4000000
set_option maxRecDepth 100000
open IntKind renaming i64 → C
open Value renaming int → D, slice → E, string → F, agg → O
open Obj renaming cells → H
open Ending renaming returned → I
open Nat renaming le_refl → J, lt_of_lt_of_le → M
open RowKit.Below renaming refl → K
open List renaming mem_cons_self → N, length_map → P
def rkS (x:Int):Int:=if x=1 then 2 else if x=2 then 1 else 0
def cB:List Int→Int
 | []=>0
 | t::r=>max (rkS t) (cB r)
theorem lE (x:Int):0≤rkS x∧rkS x≤2:=by
 unfold rkS
 split
 ·decide
 ·split<;>decide
theorem hH:∀l,0≤cB l∧cB l≤2
 | []=>by decide
 | t::r=>by
   have h1:=lE t
   have h2:=hH r
   unfold cB
   omega
theorem gK:∀(l:List Int) (t:Int),cB (l ++ [t])=max (cB l) (rkS t)
 | [],t=>by
   have:=lE t
   show max (rkS t) 0=max 0 (rkS t)
   omega
 | x::r,t=>by
   show max (rkS x) (cB (r ++ [t]))=max (max (rkS x) (cB r)) (rkS t)
   rw[gK r t]
   omega
def zK (t:Int):T:=.node (cI t).1 (cI t).2 ⟨#[]⟩ []
theorem lP:∀(ts:List Int) (m o:Nat),(∀t ∈ ts,t=0∨t=1∨t=2)→o≤m→bA 1 (m+ts.length) (ts.map zK) o=if cB ts=2 then .node 1 1 ⟨#[]⟩ [] else if o<m∨cB ts=1 then aw else .node 1 0 ⟨#[]⟩ []
 | [],m,o,h,ho=>by
   show(if o<m+0 then aw else .node 1 (1-1) ⟨#[]⟩ [])=if (0:Int)=2 then .node 1 1 ⟨#[]⟩ [] else if o<m∨(0:Int)=1 then aw else .node 1 0 ⟨#[]⟩ []
   by_cases hm:o<m<;>simp[hm]
 | t::ts,m,o,h,ho=>by
   have ih:=fun m o hh=>lP ts m o (fun t ht=>h t (List.mem_cons_of_mem _ ht)) hh
   have hr:=hH ts
   rcases h t (N ..) with rfl | rfl | rfl
   ·have e:cB (0::ts)=cB ts:=by show max (rkS 0) (cB ts)=_;rw[show rkS 0=0 from rfl];omega
    rw[e]
    show bA 1 (m+(ts.length+1)) (.node 1 0 ⟨#[]⟩ []::ts.map zK) o=_
    have e2:bA 1 (m+(ts.length+1)) (.node 1 0 ⟨#[]⟩ []::ts.map zK) o=bA 1 (m+1+ts.length) (ts.map zK) (o+1):=by
     rw[show m+(ts.length+1)=m+1+ts.length by omega]
     rfl
    rw[e2,ih (m+1) (o+1) (by omega)]
    simp only[Nat.add_lt_add_iff_right]
   ·have e:cB (1::ts)=2:=by show max (rkS 1) (cB ts)=_;rw[show rkS 1=2 from rfl];omega
    rw[e,if_pos rfl]
    rfl
   ·have e:cB (2::ts)=max 1 (cB ts):=rfl
    rw[e]
    have e2:bA 1 (m+(ts.length+1)) (.node 0 0 ⟨#[]⟩ []::ts.map zK) o=bA 1 (m+1+ts.length) (ts.map zK) o:=by
     rw[show m+(ts.length+1)=m+1+ts.length by omega]
     rfl
    show bA 1 (m+(ts.length+1)) (.node 0 0 ⟨#[]⟩ []::ts.map zK) o=_
    rw[e2,ih (m+1) o (by omega)]
    by_cases h2:cB ts=2
    ·rw[if_pos h2,if_pos (by omega)]
    ·have h3:¬max 1 (cB ts)=2:=by omega
     have h4:max 1 (cB ts)=1:=by omega
     rw[if_neg h2,if_pos (Or.inl (by omega:o<m+1)),if_neg h3,if_pos (Or.inr h4)]
theorem qJ (x:T) (L:List T):bG 1 (L.map (cq x))=if cB (L.map (aU x))=2 then .node 1 1 ⟨#[]⟩ [] else if cB (L.map (aU x))=1 then aw else .node 1 0 ⟨#[]⟩ []:=by
 have h:=lP (L.map (aU x)) 0 0 (fun t ht=>by
  obtain⟨y,_,rfl⟩:=List.mem_map.1 ht
  exact dk x y) (J _)
 have e:(L.map (aU x)).map zK=L.map (cq x):=by rw[List.map_map];rfl
 rw[e,P,Nat.zero_add] at h
 unfold bG
 rw[P,h]
 simp
theorem tvB {B:Nat} (w0 w:World) (na:Option Addr) (nl nc:Nat) (ea:Option Addr) (el ec:Nat) (next:Int) (vk vn:Int) (vs:ByteArray) (va:Option Addr) (vl vc:Nat) (nm:ByteArray) (a:Option Addr) (l c:Nat) (Lv:List T) (A:List Tm) (m:Nat) (hw:Below w0.heap.size w0 w) (hB:B≤w0.heap.size) (hT:bD B w0) (ht:bd w0 4 vk vn vs va vl vc nm a l c Lv A) (o:Nat) (hgrp:o=6∨o=9) (ho:bN nm=some o) (htk:an o = -1∨an o=A.length) (h30:A.length≤30) (G:Tm→T) (hcw:∀y ∈ A,Ck 6 (G y)) (IH:∀(xk xvk xvn:Int) (xvs:ByteArray) (xva:Option Addr) (xvl xvc:Nat) (xnm:ByteArray) (xa:Option Addr) (xl xc:Nat) (Lv:List T) (A':List Tm),bd w0 xk xvk xvn xvs xva xvl xvc xnm xa xl xc Lv A'→.node xk (.node xvk xvn xvs Lv) xnm A' ∈ A→∀W,Below w0.heap.size w0 W→Calls Tryz.prog 12 #[O #[E na nl nc,E ea el ec,D C next],.map (some m),O #[D C xk,D C xvk,D C xvn,F xvs,E xva xvl xvc,F xnm,E xa xl xc]] W fun e w'=>aL (fun i=>i<w0.heap.size) W w' (G (.node xk (.node xvk xvn xvs Lv) xnm A')) e∧Below W.heap.size W w'):Calls Tryz.prog 12 #[O #[E na nl nc,E ea el ec,D C next],.map (some m),O #[D C 4,D C vk,D C vn,F vs,E va vl vc,F nm,E a l c]] w fun e w'=>aL (fun i=>i<w0.heap.size) w w' (opF o (A.map G)) e∧Below w.heap.size w w':=by
 have HGRP:=aa hgrp
 clear hgrp
 have hlen:=ht.args.len.1
 have hl30:l≤30:=by rw[hlen];exact h30
 obtain⟨i0,hi0,hiz,his,hib⟩:=dw
 have HI0:=aa hi0
 have HIZ:=aa hiz
 have HIS:=aa his
 have HIB:=aa hib
 have HAR:=aa ht.args
 have HLEN:=aa hlen
 have HIH:=aa IH
 have HCW:=aa hcw
 have HTK:=aa htk
 have HTB:=aa hT
 have HBB:=aa hB
 have HO:=aa ho
 have hb3:Below w.heap.size w (((w.alloc (H #[E na nl nc,E ea el ec,D C next] 25)).alloc (H #[D C 4,D C vk,D C vn,F vs,E va vl vc,F nm,E a l c] 33)).alloc (H #[D C 0,D C 0,F ⟨#[]⟩,E none 0 0] 30)):=(((K _ _).alloc (J _) _).alloc (by simp) _).alloc (by simp;omega) _
 have hz:(((w.alloc (H #[E na nl nc,E ea el ec,D C next] 25)).alloc (H #[D C 4,D C vk,D C vn,F vs,E va vl vc,F nm,E a l c] 33)).alloc (H #[D C 0,D C 0,F ⟨#[]⟩,E none 0 0] 30)).heap.size=w.heap.size+3:=by simp
 have h0:(((w.alloc (H #[E na nl nc,E ea el ec,D C next] 25)).alloc (H #[D C 4,D C vk,D C vn,F vs,E va vl vc,F nm,E a l c] 33)).alloc (H #[D C 0,D C 0,F ⟨#[]⟩,E none 0 0] 30)).heap[w.heap.size]? = some (H #[E na nl nc,E ea el ec,D C next] 25 (0,0)):=(aK w (H #[E na nl nc,E ea el ec,D C next] 25) (H #[D C 4,D C vk,D C vn,F vs,E va vl vc,F nm,E a l c] 33) (H #[D C 0,D C 0,F ⟨#[]⟩,E none 0 0] 30)).1
 have h1:(((w.alloc (H #[E na nl nc,E ea el ec,D C next] 25)).alloc (H #[D C 4,D C vk,D C vn,F vs,E va vl vc,F nm,E a l c] 33)).alloc (H #[D C 0,D C 0,F ⟨#[]⟩,E none 0 0] 30)).heap[w.heap.size+1]? = some (H #[D C 4,D C vk,D C vn,F vs,E va vl vc,F nm,E a l c] 33 (0,0)):=(aK w (H #[E na nl nc,E ea el ec,D C next] 25) (H #[D C 4,D C vk,D C vn,F vs,E va vl vc,F nm,E a l c] 33) (H #[D C 0,D C 0,F ⟨#[]⟩,E none 0 0] 30)).2.1
 have h2:(((w.alloc (H #[E na nl nc,E ea el ec,D C next] 25)).alloc (H #[D C 4,D C vk,D C vn,F vs,E va vl vc,F nm,E a l c] 33)).alloc (H #[D C 0,D C 0,F ⟨#[]⟩,E none 0 0] 30)).heap[w.heap.size+2]? = some (H #[D C 0,D C 0,F ⟨#[]⟩,E none 0 0] 30 (0,0)):=(aK w (H #[E na nl nc,E ea el ec,D C next] 25) (H #[D C 4,D C vk,D C vn,F vs,E va vl vc,F nm,E a l c] 33) (H #[D C 0,D C 0,F ⟨#[]⟩,E none 0 0] 30)).2.2
 have HB:=aa hb3
 have HZ:=aa hz
 have H0:=aa h0
 have H1:=aa h1
 have H2:=aa h2
 clear hb3 hz h0 h1 h2
 have HW:=aa hw
 have HSZ:=aa hw.size
 clear ht hT hi0 hiz his hib hw hlen IH hcw htk hB h30 ho
 go_enter Tryz.func12,Tryz.ntmps12
 go_upto_region 1 with fail
 generalize (((w.alloc (H #[E na nl nc,E ea el ec,D C next] 25)).alloc (H #[D C 4,D C vk,D C vn,F vs,E va vl vc,F nm,E a l c] 33)).alloc (H #[D C 0,D C 0,F ⟨#[]⟩,E none 0 0] 30))=W at HB HZ H0 H1 H2 ⊢
 have HG1:Hid (∀u,Below (w.heap.size+3) W u→u.heap[w.heap.size]? = some (H #[E na nl nc,E ea el ec,D C next] 25 (0,0))):=fun u k=>(k.block w.heap.size (by omega)).trans H0.out
 have HT1:Hid (∀u,Below (w.heap.size+3) W u→u.heap[w.heap.size+1]? = some (H #[D C 4,D C vk,D C vn,F vs,E va vl vc,F nm,E a l c] 33 (0,0))):=fun u k=>(k.block (w.heap.size+1) (by omega)).trans H1.out
 have HR1:Hid (∀u,Below (w.heap.size+3) W u→u.heap[w.heap.size+2]? = some (H #[D C 0,D C 0,F ⟨#[]⟩,E none 0 0] 30 (0,0))):=fun u k=>(k.block (w.heap.size+2) (by omega)).trans H2.out
 have c0:=ac H1.out 0
 have c6:=ac H1.out 6
 simp at c0 c6
 have z1:w.heap.size+1<W.heap.size:=by rw[HZ.out];omega
 go_wp2_with fail
 clear c0 c6 z1
 go_loopg [10,75] l (fun q s10 s75 wr=>∃(i:Nat) (xs:List VR) (ov:Value),i≤l∧l-i≤q∧ov=s10∧s75=D C i∧xs.length=i∧wr.ownsRow (w.heap.size+3) 30 4 ov i (bR xs)∧Below (w.heap.size+3) W wr∧aA (VR.In (fun j=>(j<w0.heap.size∨w.heap.size+3≤j)∧ov.ownBlock≠some j) wr) xs ((A.take i).map G))
 case atStart=>exact⟨0,[],E none 0 0,Nat.zero_le _,by omega,rfl,rfl,rfl,World.ownsRow_nil _ _ _ _,K _ _,by simpa using aA.nil⟩
 case round=>
  obtain⟨i,xs,ov,hi,hg,rfl,rfl,hxs,hown,hbw,hpr⟩:=hrel
  have HOWN:=aa hown
  have HPR:=aa hpr
  have HXS:=aa hxs
  have hzw:w.heap.size+3≤wr.heap.size:=by have:=hbw.size;rw[HZ.out] at this;exact this
  have hw0:Below w.heap.size w wr:=HB.out.trans (hbw.mono (by omega))
  have hw00:Below w0.heap.size w0 wr:=HW.out.trans (hw0.mono HSZ.out)
  clear hown hpr hxs
  by_cases hlt:i<l
  ·obtain⟨b2,off2,xk,xvk,xvn,xvs,xva,xvl,xvc,xnm,xa,xl,xc,Lv',A',ha2,hbl2,hd,⟨e0,e1,e2,e3,e4,e5,e6⟩,hta⟩:=HAR.out.at (i:=i) hlt
   have HC:=aa (HIH.out xk xvk xvn xvs xva xvl xvc xnm xa xl xc Lv' A' hta (List.mem_of_mem_drop (i:=i) (by rw[hd];exact N ..)))
   have HTK2:Hid (A.take (i+1)=A.take i ++ [.node xk (.node xvk xvn xvs Lv') xnm A']):=by
    have e:A[i]? = some (.node xk (.node xvk xvn xvs Lv') xnm A'):=by
     have:=List.getElem?_drop (xs:=A) (i:=i) (j:=0)
     rw[hd] at this
     simpa using this.symm
    show A.take (i+1)=_
    rw[List.take_add_one,e]
    rfl
   subst ha2
   have q2:∀o,wr.cell? ⟨b2,o,none⟩=w0.cell? ⟨b2,o,none⟩:=fun o=>hw00.cell (p:=⟨b2,o,none⟩) hbl2
   have d0:=(q2 _).trans e0
   have d1:=(q2 _).trans e1
   have d2:=(q2 _).trans e2
   have d3:=(q2 _).trans e3
   have d4:=(q2 _).trans e4
   have d5:=(q2 _).trans e5
   have d6:=(q2 _).trans e6
   have hil:(i:Int)<l:=by omega
   have hkx:Below wr.heap.size wr (wr.alloc (H #[D C xk,D C xvk,D C xvn,F xvs,E xva xvl xvc,F xnm,E xa xl xc] 33)):=(K _ _).alloc (J _) _
   have hxb:=ae wr (H #[D C xk,D C xvk,D C xvn,F xvs,E xva xvl xvc,F xnm,E xa xl xc] 33)
   have hzx:(wr.alloc (H #[D C xk,D C xvk,D C xvn,F xvs,E xva xvl xvc,F xnm,E xa xl xc] 33)).heap.size=wr.heap.size+1:=by simp
   have HOX:=aa (HOWN.out.alloc (H #[D C xk,D C xvk,D C xvn,F xvs,E xva xvl xvc,F xnm,E xa xl xc] 33))
   have HBX:=aa (hbw.trans (hkx.mono hzw))
   have HKX:=aa hkx
   have HXB:=aa hxb
   have HZX:=aa hzx
   have HW0X:=aa (show Below w0.heap.size w0 (wr.alloc (H #[D C xk,D C xvk,D C xvn,F xvs,E xva xvl xvc,F xnm,E xa xl xc] 33)) from hw00.trans (hkx.mono hw00.size))
   clear e0 e1 e2 e3 e4 e5 e6 q2 hd hta hkx hxb hzx hbw hw0 hw00
   go_upto_region 18 with fail
   clear d0 d1 d2 d3 d4 d5 d6
   generalize wr.alloc (H #[D C xk,D C xvk,D C xvn,F xvs,E xva xvl xvc,F xnm,E xa xl xc] 33)=WX at HOX HBX HKX HXB HZX HW0X ⊢
   obtain⟨g0,g1,g2,g3,g4,g5,g6⟩:=bV HXB.out
   simp at g0 g1 g2 g3 g4 g5 g6
   have hgb:=HG1.out WX HBX.out
   obtain⟨v0,v1,v2⟩:=cj hgb
   simp at v0 v1 v2
   have hgs:w.heap.size<WX.heap.size:=lt_block' hgb
   clear hgb
   have hwX:wr.heap.size<WX.heap.size:=by rw[HZX.out];omega
   have HBy:(i+1)*56≤140737488355328:=by omega
   have HBm:i+1≤maxLen:=by unfold maxLen;omega
   go_wp2_with fail
   refine(HC.out _ HW0X.out).mono ?_
   rintro e u1 ⟨⟨rk,rn,rs,ra,rl,rc,Lr,rfl,hre,hrlc,hrs,hrL⟩,k1⟩
   have hu1:WX.heap.size≤u1.heap.size:=k1.size
   have hown2:u1.ownsRow (w.heap.size+3) 30 4 ov i (bR xs):=da HOX.out (fun g _ hgl=>k1.block g hgl)
   have hu2:w.heap.size+3≤u1.heap.size:=by omega
   have K1:=aa k1
   have HRE:=aa hre
   have HRL:=aa hrL
   have HRS:=aa (show rl≤rc∧rs.size≤9223372036854775807 from⟨hrlc,hrs⟩)
   have HO2:=aa hown2
   clear k1 hre hrL hrlc hrs hown2 g0 g1 g2 g3 g4 g5 g6 v0 v1 v2
   go_wp2_with (at_builtin;refine wpList_append_lies _ rfl _ _ 28 rfl (w.heap.size+3) 30 i0 _ 4 56 Tryz.underlying28 HI0.out HIZ.out HIS.out HIB.out rfl (by omega) ov i (bR xs) rfl (HO2.out.alloc _) ⟨u1.heap.size,0,none⟩ 1 1 ((⟨rk,rn,rs,ra,rl,rc⟩:VR).cells) rfl rfl (World.news_of_block (cs:=#[D C rk,D C rn,F rs,E ra rl rc]) (t:=30) (fr:=(0,0)) (ae u1 _)) (by simp[VR.cells,Value.oneCell']) (by omega) HBm HBy (by simp;omega) (u1.heap.size+1) (by simp) ?_)
   intro gg cap w5 hown5 hgrow hat5 hlt5
   have k1:=K1.out
   have hown2:=HO2.out
   have hle:=HSZ.out
   have hzx:=HZX.out
   have hb6:Below (w.heap.size+3) W w5:=((HBX.out.trans (k1.mono (by omega))).alloc (by omega) _).grown hgrow (by simp;omega) (fun j hj=>(hown2.lt j hj).1)
   have hsz5:u1.heap.size+1≤w5.heap.size:=by have:=hgrow.size;simpa using this
   have hkeep:∀j,ov.ownBlock≠some j→j<u1.heap.size→some gg≠some j∧w5.heap[j]? = u1.heap[j]?:=fun j hj hl=>by
    refine⟨fun e=>?_,?_⟩
    ·rcases hat5 with h | h
     ·exact hj (h.trans e)
     ·injection e with e;omega
    ·have q1:=hgrow.block j (by simp;omega) (Ne.symm hj)
     have q2:=((K u1.heap.size u1).alloc (J _) (H #[D C rk,D C rn,F rs,E ra rl rc] 30)).block j hl
     exact q1.trans q2
   have hold:aA (VR.In (fun j=>(j<w0.heap.size∨w.heap.size+3≤j)∧(Value.slice (some ⟨gg,0,none⟩) (i+1) cap).ownBlock≠some j) w5) xs ((A.take i).map G):=HPR.out.mono fun p x _ _ hp=>hp.kept (by omega) fun j hj hl=>by
    obtain⟨r1,r2⟩:=hkeep j hj.2 (by omega)
    exact⟨⟨hj.1,r1⟩,r2.trans ((k1.block j (by omega)).trans (HKX.out.block j hl))⟩
   have hnew:VR.In (fun j=>(j<w0.heap.size∨w.heap.size+3≤j)∧(Value.slice (some ⟨gg,0,none⟩) (i+1) cap).ownBlock≠some j) w5 (⟨rk,rn,rs,ra,rl,rc⟩:VR) (G (.node xk (.node xvk xvn xvs Lv') xnm A')):=⟨Lr,HRE.out,HRS.out.2,HRS.out.1,ap.kept (by omega) (fun j hj hl=>by
    have hn:ov.ownBlock≠some j:=fun e=>by
     have:=HOWN.out.lt j e
     rcases hj with h | h<;>omega
    obtain⟨r1,r2⟩:=hkeep j hn hl
    refine⟨⟨?_,r1⟩,r2⟩
    have hd:WX.drew.heap.size=WX.heap.size:=rfl
    rcases hj with h | h
    ·exact .inl h
    ·exact .inr (by omega)) _ _ _ HRL.out⟩
   have HP5:Hid (aA (VR.In (fun j=>(j<w0.heap.size∨w.heap.size+3≤j)∧(Value.slice (some ⟨gg,0,none⟩) (i+1) cap).ownBlock≠some j) w5) (xs ++ [(⟨rk,rn,rs,ra,rl,rc⟩:VR)]) ((A.take (i+1)).map G)):=by
    show aA _ _ _
    rw[HTK2.out,List.map_append]
    exact hold.snoc hnew
   have HOWN5:Hid (w5.ownsRow (w.heap.size+3) 30 4 (E (some ⟨gg,0,none⟩) (i+1) cap) (i+1) (bR (xs ++ [(⟨rk,rn,rs,ra,rl,rc⟩:VR)]))):=by
    rw[dR]
    exact hown5
   have HB6:=aa hb6
   clear hb6 hown5 hgrow hat5 hlt5 hown2 k1 hu1 hold hnew hkeep hsz5 hle hzx
   go_wp2_with fail
   go_roundg (l-(i+1))
   case measure=>omega
   case rel=>exact⟨i+1,xs ++ [(⟨rk,rn,rs,ra,rl,rc⟩:VR)],E (some ⟨gg,0,none⟩) (i+1) cap,by omega,by omega,rfl,by go_num,by rw[List.length_append,HXS.out];rfl,HOWN5.out,HB6.out,HP5.out⟩
  ·have hil:¬(i:Int)<l:=by omega
   have hll:i=l:=by omega
   have hA:A.take i=A:=List.take_of_length_le (by have:=HLEN.out;omega)
   have hpr:=HPR.out
   rw[hA] at hpr
   obtain⟨oa,oc,hov,hlc,hLA⟩:∃oa oc,ov=E oa l oc∧l≤oc∧ap (fun j=>j<w0.heap.size∨w.heap.size+3≤j) wr (A.map G) oa l:=by
    obtain⟨oa,ol,oc,hov⟩:∃oa ol oc,ov=E oa ol oc:=by
     rcases HOWN.out.2 with⟨e,_⟩ | ⟨g,cap,cur,e,_⟩
     ·exact⟨_,_,_,e⟩
     ·exact⟨_,_,_,e⟩
    subst hov
    have hr:=HOWN.out
    rw[←HXS.out] at hr
    obtain⟨v1,v2,v3⟩:=dI (n:=0) (A:=fun j=>j<w0.heap.size∨w.heap.size+3≤j) hr (fun g hg=>.inr (by omega)) (hpr.mono fun p x _ _ hp=>hp.kept (J _) fun j hj _=>⟨hj.1,rfl⟩)
    have e:ol=l:=by rw[v1,P,←HLEN.out]
    rw[e] at v2 v3
    exact⟨oa,oc,by rw[e],v2,v3⟩
   subst hov
   obtain⟨TS,hTS⟩:∃z,z=A.map G:=⟨_,rfl⟩
   rw[←hTS] at hLA
   have HTS:=aa hTS
   have HCS:Hid (∀t ∈ TS,Ck 6 t):=fun t ht=>by
    rw[hTS] at ht
    obtain⟨y,hy,rfl⟩:=List.mem_map.1 ht
    exact HCW.out y hy
   have hVb:Below wr.heap.size wr ((wr.alloc (H #[D C 0,D C 2,D C 1] 3)).alloc (H #[D C 0,D C 2,D C 1] 3)):=((K _ _).alloc (J _) _).alloc (by simp) _
   have HV13:Hid (((wr.alloc (H #[D C 0,D C 2,D C 1] 3)).alloc (H #[D C 0,D C 2,D C 1] 3)).heap[wr.heap.size]? = some (H #[D C 0,D C 2,D C 1] 3 (0,0))):=(Below.heap_alloc (wr.alloc (H #[D C 0,D C 2,D C 1] 3)) (H #[D C 0,D C 2,D C 1] 3) wr.heap.size (by simp)).trans (ae wr (H #[D C 0,D C 2,D C 1] 3))
   have HV14:=aa (ay wr (H #[D C 0,D C 2,D C 1] 3) (H #[D C 0,D C 2,D C 1] 3))
   have HZV:Hid (((wr.alloc (H #[D C 0,D C 2,D C 1] 3)).alloc (H #[D C 0,D C 2,D C 1] 3)).heap.size=wr.heap.size+2):=by show _=_;simp
   have HBV:=aa (hbw.trans (hVb.mono (by have:=hbw.size;rw[HZ.out] at this;exact this)))
   have HWV:=aa (af hw0 hVb)
   have HLV:=aa (hLA.below hVb)
   have hzwr:w.heap.size+3≤wr.heap.size:=by have:=hbw.size;rw[HZ.out] at this;exact this
   have HLC:=aa hlc
   clear hVb hLA hpr hA hTS hbw hw0 hw00 HOWN HPR hlc
   go_upto_region 22 with fail
   generalize (wr.alloc (H #[D C 0,D C 2,D C 1] 3)).alloc (H #[D C 0,D C 2,D C 1] 3)=V at HV13 HV14 HZV HBV HWV HLV ⊢
   have c5:=ac (HT1.out V HBV.out) 5
   simp at c5
   have z5:w.heap.size+1<V.heap.size:=lt_block' (HT1.out V HBV.out)
   have hV3:w.heap.size+3≤V.heap.size:=by have:=HZV.out;omega
   rcases HGRP.out with rfl | rfl
   ·have hm0:(nm.toList == [43])=false:=ak (j:=0) HO.out rfl (by decide)
    have hm1:(nm.toList == [45])=false:=ak (j:=1) HO.out rfl (by decide)
    have hm2:(nm.toList == [42])=false:=ak (j:=2) HO.out rfl (by decide)
    have hm3:(nm.toList == [61])=false:=ak (j:=3) HO.out rfl (by decide)
    have hm4:(nm.toList == [60])=false:=ak (j:=4) HO.out rfl (by decide)
    have hm5:(nm.toList == [60,61])=false:=ak (j:=5) HO.out rfl (by decide)
    have hm6:(nm.toList == [110,111,116])=true:=b9 HO.out rfl
    have hl2:l=1:=by
     have h:=HTK.out
     have h2:=HLEN.out
     rw[show an 6=1 from by decide] at h
     omega
    obtain⟨b,off,k0,n0,s0,L0,a0,l0,c0,ha,hAb,hbl,hd0,x0,x1,x2,x3,hlc0,hs0,hL0⟩:=HLV.out.at (i:=0) (by omega)
    subst ha
    rw[Nat.zero_mul,Nat.add_zero] at x0 x1 x2 x3
    have hb2:b≠w.heap.size+2:=by have h1:=HSZ.out;rcases hAb with h | h<;>omega
    have HTL:Hid (TS = [.node k0 n0 s0 L0]):=by
     have e0:TS = .node k0 n0 s0 L0::TS.drop 1:=by simpa using hd0
     have e3:TS.drop 1 = []:=List.drop_eq_nil_of_le (by have:=HLV.out.len.1;omega)
     rw[e3] at e0
     exact e0
    have HC0:Hid (Ck 6 (.node k0 n0 s0 L0)):=HCS.out _ (by rw[HTL.out];exact N ..)
    have HL0:=aa hL0
    have HC:=aa (show l0≤c0∧s0.size≤9223372036854775807 from⟨hlc0,hs0⟩)
    clear hd0 hL0 hlc0 hs0
    have HVE:Hid (opF 6 (A.map G)=cG (.node k0 n0 s0 L0)):=by
     show _=_
     rw[←HTS.out,HTL.out]
     rfl
    subst hl2
    clear c5 z5
    have c5:=ac (HT1.out V HBV.out) 5
    simp at c5
    have z5:w.heap.size+1<V.heap.size:=lt_block' (HT1.out V HBV.out)
    rcases nf HC0.out with⟨hst,hk,hn⟩ | ⟨hst,hk,hn⟩ | ⟨hst,hk⟩
    ·skip
     have HVE2:Hid (opF 6 (A.map G) = .node 1 1 ⟨#[]⟩ []):=HVE.out.trans (by rw[fU];simp[dn,hk,hn])
     have HSTT:Hid (∀u,Calls Tryz.prog 35 #[vC k0 n0 s0 a0 l0 c0] u fun e w'=>e=I (D C 0)∧Below u.heap.size u w'):=fun u=>by
      have:=bQ k0 n0 s0 a0 l0 c0 u
      rw[hst] at this
      exact this
     have hVA:Below V.heap.size V (V.alloc (H #[D C 1,D C 0,D C 2] 3)):=(K _ _).alloc (J _) _
     have HVA:=aa hVA
     have HAA:=aa (ae V (H #[D C 1,D C 0,D C 2] 3))
     have z0:(V.alloc (H #[D C 1,D C 0,D C 2] 3)).cell? ⟨b,off,none⟩=some (D C k0):=(hVA.cell (p:=⟨b,off,none⟩) hbl).trans x0
     have z1:(V.alloc (H #[D C 1,D C 0,D C 2] 3)).cell? ⟨b,off+1,none⟩=some (D C n0):=(hVA.cell (p:=⟨b,off+1,none⟩) hbl).trans x1
     have z2:(V.alloc (H #[D C 1,D C 0,D C 2] 3)).cell? ⟨b,off+2,none⟩=some (F s0):=(hVA.cell (p:=⟨b,off+2,none⟩) hbl).trans x2
     have z3:(V.alloc (H #[D C 1,D C 0,D C 2] 3)).cell? ⟨b,off+3,none⟩=some (E a0 l0 c0):=(hVA.cell (p:=⟨b,off+3,none⟩) hbl).trans x3
     have hbA:b<(V.alloc (H #[D C 1,D C 0,D C 2] 3)).heap.size:=M hbl hVA.size
     have hzA:(V.alloc (H #[D C 1,D C 0,D C 2] 3)).heap.size=V.heap.size+1:=by simp
     clear hst hVA hk hn
     go_wp2_with fail
     refine(HSTT.out _).mono ?_
     generalize V.alloc (H #[D C 1,D C 0,D C 2] 3)=VA at HVA HAA z0 z1 z2 z3 hbA hzA ⊢
     rintro e u1 ⟨rfl,k1⟩
     have hk1:=af HVA.out k1
     have HK1:=aa hk1
     have hAA:=(k1.block V.heap.size (by omega)).trans HAA.out
     have a0':=ac hAA 0
     have a1':=ac hAA 1
     have a2':=ac hAA 2
     simp at a0' a1' a2'
     have hVu:V.heap.size<u1.heap.size:=lt_block' hAA
     have HTR:=aa (dj 1 1 1 rfl u1)
     clear hAA hk1 k1 z0 z1 z2 z3
     go_wp2_with fail
     refine HTR.out.mono ?_
     rintro e u2 ⟨rfl,k2⟩
     have HK2:=aa (af HK1.out k2)
     clear k2 a0' a1' a2'
     have HQ:=aa (HR1.out u2 (HBV.out.trans (HK2.out.mono (by have:=HZV.out;omega))))
     obtain⟨⟨r0,r1,r2,r3⟩,hsq⟩:=bX HQ.out
     obtain⟨f0,f1,f2,f3⟩:=aq HQ.out
     go_wp2_with fail
     obtain⟨Y,eY,⟨t0,t1,t2,t3⟩,hbb,hoth,hsz⟩:=ba (w:=w) HQ.out rfl (af HWV.out HK2.out) (by omega) (D C 1) (D C 1) (F ⟨#[]⟩) (E none 0 0)
     rw[eY]
     exact bodyPost_ret (v:=vC (1) (1) ⟨#[]⟩ none 0 0) (by simp[results,Tryz.results12,go_sem,t0,t1,t2,t3]) rfl ⟨(by rw[HVE2.out];exact aL.flat _ _ _ (by decide)),hbb⟩
    ·skip
     have HVE2:Hid (opF 6 (A.map G) = .node 1 0 ⟨#[]⟩ []):=HVE.out.trans (by rw[fU];simp[dn,hk,hn])
     have HSTT:Hid (∀u,Calls Tryz.prog 35 #[vC k0 n0 s0 a0 l0 c0] u fun e w'=>e=I (D C 1)∧Below u.heap.size u w'):=fun u=>by
      have:=bQ k0 n0 s0 a0 l0 c0 u
      rw[hst] at this
      exact this
     have hVA:Below V.heap.size V (V.alloc (H #[D C 1,D C 0,D C 2] 3)):=(K _ _).alloc (J _) _
     have HVA:=aa hVA
     have HAA:=aa (ae V (H #[D C 1,D C 0,D C 2] 3))
     have z0:(V.alloc (H #[D C 1,D C 0,D C 2] 3)).cell? ⟨b,off,none⟩=some (D C k0):=(hVA.cell (p:=⟨b,off,none⟩) hbl).trans x0
     have z1:(V.alloc (H #[D C 1,D C 0,D C 2] 3)).cell? ⟨b,off+1,none⟩=some (D C n0):=(hVA.cell (p:=⟨b,off+1,none⟩) hbl).trans x1
     have z2:(V.alloc (H #[D C 1,D C 0,D C 2] 3)).cell? ⟨b,off+2,none⟩=some (F s0):=(hVA.cell (p:=⟨b,off+2,none⟩) hbl).trans x2
     have z3:(V.alloc (H #[D C 1,D C 0,D C 2] 3)).cell? ⟨b,off+3,none⟩=some (E a0 l0 c0):=(hVA.cell (p:=⟨b,off+3,none⟩) hbl).trans x3
     have hbA:b<(V.alloc (H #[D C 1,D C 0,D C 2] 3)).heap.size:=M hbl hVA.size
     have hzA:(V.alloc (H #[D C 1,D C 0,D C 2] 3)).heap.size=V.heap.size+1:=by simp
     clear hst hVA hk hn
     go_wp2_with fail
     refine(HSTT.out _).mono ?_
     generalize V.alloc (H #[D C 1,D C 0,D C 2] 3)=VA at HVA HAA z0 z1 z2 z3 hbA hzA ⊢
     rintro e u1 ⟨rfl,k1⟩
     have hk1:=af HVA.out k1
     have HK1:=aa hk1
     have hAA:=(k1.block V.heap.size (by omega)).trans HAA.out
     have a0':=ac hAA 0
     have a1':=ac hAA 1
     have a2':=ac hAA 2
     simp at a0' a1' a2'
     have hVu:V.heap.size<u1.heap.size:=lt_block' hAA
     have HTR:=aa (dj 0 1 0 rfl u1)
     clear hAA hk1 k1 z0 z1 z2 z3
     go_wp2_with fail
     refine HTR.out.mono ?_
     rintro e u2 ⟨rfl,k2⟩
     have HK2:=aa (af HK1.out k2)
     clear k2 a0' a1' a2'
     have HQ:=aa (HR1.out u2 (HBV.out.trans (HK2.out.mono (by have:=HZV.out;omega))))
     obtain⟨⟨r0,r1,r2,r3⟩,hsq⟩:=bX HQ.out
     obtain⟨f0,f1,f2,f3⟩:=aq HQ.out
     go_wp2_with fail
     obtain⟨Y,eY,⟨t0,t1,t2,t3⟩,hbb,hoth,hsz⟩:=ba (w:=w) HQ.out rfl (af HWV.out HK2.out) (by omega) (D C 1) (D C 0) (F ⟨#[]⟩) (E none 0 0)
     rw[eY]
     exact bodyPost_ret (v:=vC (1) (0) ⟨#[]⟩ none 0 0) (by simp[results,Tryz.results12,go_sem,t0,t1,t2,t3]) rfl ⟨(by rw[HVE2.out];exact aL.flat _ _ _ (by decide)),hbb⟩
    ·skip
     have HVE2:Hid (opF 6 (A.map G) = .node 0 0 ⟨#[]⟩ []):=HVE.out.trans (by rw[fU];simp[dn,hk])
     have HSTT:Hid (∀u,Calls Tryz.prog 35 #[vC k0 n0 s0 a0 l0 c0] u fun e w'=>e=I (D C 2)∧Below u.heap.size u w'):=fun u=>by
      have:=bQ k0 n0 s0 a0 l0 c0 u
      rw[hst] at this
      exact this
     have hVA:Below V.heap.size V (V.alloc (H #[D C 1,D C 0,D C 2] 3)):=(K _ _).alloc (J _) _
     have HVA:=aa hVA
     have HAA:=aa (ae V (H #[D C 1,D C 0,D C 2] 3))
     have z0:(V.alloc (H #[D C 1,D C 0,D C 2] 3)).cell? ⟨b,off,none⟩=some (D C k0):=(hVA.cell (p:=⟨b,off,none⟩) hbl).trans x0
     have z1:(V.alloc (H #[D C 1,D C 0,D C 2] 3)).cell? ⟨b,off+1,none⟩=some (D C n0):=(hVA.cell (p:=⟨b,off+1,none⟩) hbl).trans x1
     have z2:(V.alloc (H #[D C 1,D C 0,D C 2] 3)).cell? ⟨b,off+2,none⟩=some (F s0):=(hVA.cell (p:=⟨b,off+2,none⟩) hbl).trans x2
     have z3:(V.alloc (H #[D C 1,D C 0,D C 2] 3)).cell? ⟨b,off+3,none⟩=some (E a0 l0 c0):=(hVA.cell (p:=⟨b,off+3,none⟩) hbl).trans x3
     have hbA:b<(V.alloc (H #[D C 1,D C 0,D C 2] 3)).heap.size:=M hbl hVA.size
     have hzA:(V.alloc (H #[D C 1,D C 0,D C 2] 3)).heap.size=V.heap.size+1:=by simp
     clear hst hVA hk
     go_wp2_with fail
     refine(HSTT.out _).mono ?_
     generalize V.alloc (H #[D C 1,D C 0,D C 2] 3)=VA at HVA HAA z0 z1 z2 z3 hbA hzA ⊢
     rintro e u1 ⟨rfl,k1⟩
     have hk1:=af HVA.out k1
     have HK1:=aa hk1
     have hAA:=(k1.block V.heap.size (by omega)).trans HAA.out
     have a0':=ac hAA 0
     have a1':=ac hAA 1
     have a2':=ac hAA 2
     simp at a0' a1' a2'
     have hVu:V.heap.size<u1.heap.size:=lt_block' hAA
     have HTR:=aa (dj 2 0 0 rfl u1)
     clear hAA hk1 k1 z0 z1 z2 z3
     go_wp2_with fail
     refine HTR.out.mono ?_
     rintro e u2 ⟨rfl,k2⟩
     have HK2:=aa (af HK1.out k2)
     clear k2 a0' a1' a2'
     have HQ:=aa (HR1.out u2 (HBV.out.trans (HK2.out.mono (by have:=HZV.out;omega))))
     obtain⟨⟨r0,r1,r2,r3⟩,hsq⟩:=bX HQ.out
     obtain⟨f0,f1,f2,f3⟩:=aq HQ.out
     go_wp2_with fail
     obtain⟨Y,eY,⟨t0,t1,t2,t3⟩,hbb,hoth,hsz⟩:=ba (w:=w) HQ.out rfl (af HWV.out HK2.out) (by omega) (D C 0) (D C 0) (F ⟨#[]⟩) (E none 0 0)
     rw[eY]
     exact bodyPost_ret (v:=vC (0) (0) ⟨#[]⟩ none 0 0) (by simp[results,Tryz.results12,go_sem,t0,t1,t2,t3]) rfl ⟨(by rw[HVE2.out];exact aL.flat _ _ _ (by decide)),hbb⟩
   ·have hm0:(nm.toList == [43])=false:=ak (j:=0) HO.out rfl (by decide)
    have hm1:(nm.toList == [45])=false:=ak (j:=1) HO.out rfl (by decide)
    have hm2:(nm.toList == [42])=false:=ak (j:=2) HO.out rfl (by decide)
    have hm3:(nm.toList == [61])=false:=ak (j:=3) HO.out rfl (by decide)
    have hm4:(nm.toList == [60])=false:=ak (j:=4) HO.out rfl (by decide)
    have hm5:(nm.toList == [60,61])=false:=ak (j:=5) HO.out rfl (by decide)
    have hm6:(nm.toList == [110,111,116])=false:=ak (j:=6) HO.out rfl (by decide)
    have hm7:(nm.toList == [111,114])=false:=ak (j:=7) HO.out rfl (by decide)
    have hm8:(nm.toList == [97,110,100])=false:=ak (j:=8) HO.out rfl (by decide)
    have hm10:(nm.toList == [110,117,108,108])=false:=ak (j:=10) HO.out rfl (by decide)
    have hm9:(nm.toList == [105,110])=true:=b9 HO.out rfl
    have hl2:l=2:=by
     have h:=HTK.out
     have h2:=HLEN.out
     rw[show an 9=2 from by decide] at h
     omega
    obtain⟨b,off,k0,n0,s0,L0,a0,l0,c0,ha,hAb,hbl,hd0,x0,x1,x2,x3,hlc0,hs0,hL0⟩:=HLV.out.at (i:=0) (by omega)
    obtain⟨b',off',k1,n1,s1,L1,a1,l1,c1,ha',-,-,hd1,y0,y1,y2,y3,hlc1,hs1,hL1⟩:=HLV.out.at (i:=1) (by omega)
    rw[ha] at ha'
    injection ha' with ha'
    injection ha' with e1 e2
    subst e1 e2
    rw[Nat.one_mul] at y0 y1 y2 y3
    subst ha
    rw[Nat.zero_mul,Nat.add_zero] at x0 x1 x2 x3
    have hb2:b≠w.heap.size+2:=by have h1:=HSZ.out;rcases hAb with h | h<;>omega
    have HTL:Hid (TS = [.node k0 n0 s0 L0,.node k1 n1 s1 L1]):=by
     have e0:TS = .node k0 n0 s0 L0::TS.drop 1:=by simpa using hd0
     have e3:TS.drop 2 = []:=List.drop_eq_nil_of_le (by have:=HLV.out.len.1;omega)
     rw[hd1,e3] at e0
     exact e0
    have HC0:Hid (Ck 6 (.node k0 n0 s0 L0)):=HCS.out _ (by rw[HTL.out];exact N ..)
    have HC1:Hid (Ck 6 (.node k1 n1 s1 L1)):=HCS.out _ (by rw[HTL.out];exact List.mem_cons_of_mem _ (N ..))
    have HL0:=aa hL0
    have HL1:=aa hL1
    have HC:=aa (show(l0≤c0∧s0.size≤9223372036854775807)∧(l1≤c1∧s1.size≤9223372036854775807) from⟨⟨hlc0,hs0⟩,⟨hlc1,hs1⟩⟩)
    have RC8:∀u,(∀o,u.cell? ⟨b,o,none⟩=V.cell? ⟨b,o,none⟩)→R8 u b off k0 n0 s0 a0 l0 c0 k1 n1 s1 a1 l1 c1:=fun u q=>⟨⟨(q _).trans x0,(q _).trans x1,(q _).trans x2,(q _).trans x3⟩,⟨(q _).trans y0,(q _).trans y1,(q _).trans y2,(q _).trans y3⟩⟩
    have HRC:=aa RC8
    clear x0 x1 x2 x3 y0 y1 y2 y3 RC8 hd0 hd1 hL0 hL1 hlc0 hlc1 hs0 hs1
    have HVE:Hid (opF 9 (A.map G)=mZ (.node k0 n0 s0 L0) (.node k1 n1 s1 L1)):=by
     show _=_
     rw[←HTS.out,HTL.out]
     rfl
    subst hl2
    have HP0:=aa HC0.out.cw.parts
    have HP1:=aa HC1.out.cw.parts
    obtain⟨RB,hRB⟩:∃z,z=wr.heap.size:=⟨_,rfl⟩
    rw[←hRB] at HV13 HV14 HZV
    go_upto_region 47 with fail
    rw[←hRB]
    have HRBz:Hid (RB+2=V.heap.size∧w.heap.size+3≤RB):=⟨HZV.out.symm,by omega⟩
    clear c5 z5 hzwr hRB
    obtain⟨⟨x0,x1,x2,x3⟩,⟨y0,y1,y2,y3⟩⟩:=HRC.out V fun _=>rfl
    have hbV:b<V.heap.size:=hbl
    by_cases hk4:k1=4
    ·have hk4':(k1 != 4)=false:=by simp[hk4]
     have HVE1:Hid (opF 9 (A.map G)=if cB (L1.map (aU (.node k0 n0 s0 L0)))=2 then .node 1 1 ⟨#[]⟩ [] else if cB (L1.map (aU (.node k0 n0 s0 L0)))=1 then aw else .node 1 0 ⟨#[]⟩ []):=by
      refine HVE.out.trans ?_
      show(if k1=4 then bG 1 (L1.map (cq (.node k0 n0 s0 L0))) else aw)=_
      rw[if_pos hk4]
      exact qJ _ _
     have HLN:=aa HL1.out.len.1
     have hl130:l1≤30:=by rw[HLN.out];exact HP1.out.2.1
     have hRV0:RB<V.heap.size:=by have:=HRBz.out;omega
     obtain⟨R0,R1,R2⟩:=cj HV13.out
     simp at R0 R1 R2
     have HR3:=aa (show V.cell? ⟨RB,0,none⟩=some (D C 0)∧V.cell? ⟨RB,1,none⟩=some (D C 2)∧V.cell? ⟨RB,2,none⟩=some (D C 1) from⟨R0,R1,R2⟩)
     clear hk4 HVE R0 R1 R2
     go_wp2_with fail
     clear x0 x1 x2 x3 y0 y1 y2 y3
     go_loopg [17,222] l1 (fun q s17 s222 wr=>∃(j:Nat),j≤l1∧l1-j≤q∧s222=D C j∧s17=D C (cB ((L1.take j).map (aU (.node k0 n0 s0 L0))))∧Below V.heap.size V wr)
     case atStart=>exact⟨0,Nat.zero_le _,by omega,rfl,rfl,K _ _⟩
     case round=>
      obtain⟨j,hj,hgj,rfl,rfl,hbq⟩:=hrel
      have hkV:Below w.heap.size w wr:=af HWV.out hbq
      by_cases hlt:j<l1
      ·obtain⟨b2,off2,k2,n2,s2,L2,a2,l2,c2,ha2,-,hbl2,hd2,e0,e1,e2,e3,hlc2,hs2,hL2⟩:=HL1.out.at (i:=j) hlt
       subst ha2
       have hq:∀o,wr.cell? ⟨b2,o,none⟩=V.cell? ⟨b2,o,none⟩:=fun o=>hbq.cell (p:=⟨b2,o,none⟩) hbl2
       have d0:=(hq _).trans e0
       have d1:=(hq _).trans e1
       have d2:=(hq _).trans e2
       have d3:=(hq _).trans e3
       have hjl:(j:Int)<l1:=by omega
       have hb2w:b2<wr.heap.size:=M hbl2 hbq.size
       have HTKJ:Hid ((L1.take (j+1)).map (aU (.node k0 n0 s0 L0))=(L1.take j).map (aU (.node k0 n0 s0 L0)) ++ [aU (.node k0 n0 s0 L0) (.node k2 n2 s2 L2)]):=by
        have e:L1[j]? = some (.node k2 n2 s2 L2):=by
         have:=List.getElem?_drop (xs:=L1) (i:=j) (j:=0)
         rw[hd2] at this
         simpa using this.symm
        show _=_
        rw[List.take_add_one,e]
        simp
       have hw2:wtL L2≤1099511627776:=by
        have h1:=HP1.out.2.2.2
        have h2:=pN L1 j
        rw[hd2] at h2
        have h3:wtL (T.node k2 n2 s2 L2::L1.drop (j+1))=wtT (.node k2 n2 s2 L2)+wtL (L1.drop (j+1)):=by rw[wtL]
        have h4:wtT (.node k2 n2 s2 L2)=wtL L2+1:=by rw[wtT]
        omega
       obtain⟨st,hst⟩:∃z,z=aU (.node k0 n0 s0 L0) (.node k2 n2 s2 L2):=⟨_,rfl⟩
       have HFN:Hid (∀u,Below V.heap.size V u→Calls Tryz.prog 33 #[vC k0 n0 s0 a0 l0 c0,vC k2 n2 s2 a2 l2 c2] u fun e w'=>e=I (vC (cI st).1 (cI st).2 ⟨#[]⟩ none 0 0)∧Below u.heap.size u w'):=fun u ku=>by
        have h1:=HP0.out.2.2.2
        have:=nF 1099511627776 k0 n0 s0 a0 l0 c0 L0 k2 n2 s2 a2 l2 c2 L2 u (by omega) (J _) hw2 (ap.lies _ _ _ (HL0.out.below ku)) (ap.lies _ _ _ (hL2.below ku))
        rw[fY,←hst] at this
        exact this
       rw[←hst] at HTKJ
       have htri:st=0∨st=1∨st=2:=by rw[hst];exact dk _ _
       obtain⟨XB,hXB⟩:∃z,z=wr.heap.size:=⟨_,rfl⟩
       have hkx:Below wr.heap.size wr (wr.alloc (H #[D C k2,D C n2,F s2,E a2 l2 c2] 30)):=(K _ _).alloc (J _) _
       have HXX:=aa (ae wr (H #[D C k2,D C n2,F s2,E a2 l2 c2] 30))
       have HKX:=aa (af hbq hkx)
       have hxz:wr.heap.size<(wr.alloc (H #[D C k2,D C n2,F s2,E a2 l2 c2] 30)).heap.size:=by simp
       have HVZ:Hid (V.heap.size≤wr.heap.size):=hbq.size
       clear e0 e1 e2 e3 hq hd2 hlc2 hs2 hL2 hst hbq hkV hkx hw2
       go_upto_region 53 with fail
       clear d0 d1 d2 d3
       rw[←hXB] at *
       generalize wr.alloc (H #[D C k2,D C n2,F s2,E a2 l2 c2] 30)=WX at HXX HKX hxz ⊢
       obtain⟨p0,p1,p2,p3⟩:=ai HXX.out
       simp at p0 p1 p2 p3
       obtain⟨⟨x0,x1,x2,x3⟩,-⟩:=HRC.out WX fun o=>HKX.out.cell (p:=⟨b,o,none⟩) hbl
       have q0:=(HKX.out.cell (p:=⟨RB,0,none⟩) hRV0).trans HR3.out.1
       have q1:=(HKX.out.cell (p:=⟨RB,1,none⟩) hRV0).trans HR3.out.2.1
       have q2:=(HKX.out.cell (p:=⟨RB,2,none⟩) hRV0).trans HR3.out.2.2
       have D0:Below WX.heap.size WX WX.drew:=(K _ _).drew
       have hbX:b<WX.heap.size:=M hbl HKX.out.size
       have hRX:RB<WX.heap.size:=M hRV0 HKX.out.size
       have HS:Hid (∀u,Below WX.heap.size WX u→((u.cell? ⟨b,off,none⟩=some (D C k0)∧u.cell? ⟨b,off+1,none⟩=some (D C n0)∧u.cell? ⟨b,off+2,none⟩=some (F s0)∧u.cell? ⟨b,off+3,none⟩=some (E a0 l0 c0))∧(u.cell? ⟨XB,0,none⟩=some (D C k2)∧u.cell? ⟨XB,1,none⟩=some (D C n2)∧u.cell? ⟨XB,2,none⟩=some (F s2)∧u.cell? ⟨XB,3,none⟩=some (E a2 l2 c2))∧(u.cell? ⟨RB,0,none⟩=some (D C 0)∧u.cell? ⟨RB,1,none⟩=some (D C 2)∧u.cell? ⟨RB,2,none⟩=some (D C 1)))):=fun u ku=>by
        have c1':=fun o=>ku.cell (p:=⟨b,o,none⟩) hbX
        have c2':=fun o=>ku.cell (p:=⟨XB,o,none⟩) hxz
        have c3':=fun o=>ku.cell (p:=⟨RB,o,none⟩) hRX
        exact⟨⟨(c1' _).trans x0,(c1' _).trans x1,(c1' _).trans x2,(c1' _).trans x3⟩,⟨(c2' _).trans p0,(c2' _).trans p1,(c2' _).trans p2,(c2' _).trans p3⟩,⟨(c3' _).trans q0,(c3' _).trans q1,(c3' _).trans q2⟩⟩
       obtain⟨bj,hbj⟩:∃z,z=cB ((L1.take j).map (aU (.node k0 n0 s0 L0))):=⟨_,rfl⟩
       rw[←hbj]
       have HBJ:=aa hbj
       clear hbj
       rcases htri with rfl | rfl | rfl
       ·have HFM:Hid (∀u,Below V.heap.size V u→Calls Tryz.prog 33 #[vC k0 n0 s0 a0 l0 c0,vC k2 n2 s2 a2 l2 c2] u fun e w'=>e=I (vC 1 0 ⟨#[]⟩ none 0 0)∧Below u.heap.size u w'):=HFN.out
        have HSA:Hid (∀u,Calls Tryz.prog 35 #[vC 1 0 ⟨#[]⟩ none 0 0] u fun e w'=>e=I (D C 0)∧Below u.heap.size u w'):=fun u=>bQ 1 0 ⟨#[]⟩ none 0 0 u
        clear HFN
        go_region_held3 (fun W'=>((W'.cell? ⟨b,off,none⟩=some (D C k0)∧W'.cell? ⟨b,off+1,none⟩=some (D C n0)∧W'.cell? ⟨b,off+2,none⟩=some (F s0)∧W'.cell? ⟨b,off+3,none⟩=some (E a0 l0 c0))∧(W'.cell? ⟨XB,0,none⟩=some (D C k2)∧W'.cell? ⟨XB,1,none⟩=some (D C n2)∧W'.cell? ⟨XB,2,none⟩=some (F s2)∧W'.cell? ⟨XB,3,none⟩=some (E a2 l2 c2))∧(W'.cell? ⟨RB,0,none⟩=some (D C 0)∧W'.cell? ⟨RB,1,none⟩=some (D C 2)∧W'.cell? ⟨RB,2,none⟩=some (D C 1))))
         (first
           | with_reducible exact HS.out _ kx2
           | with_reducible exact HS.out _ kx1
           | with_reducible exact HS.out _ D0
           | exact⟨⟨x0,x1,x2,x3⟩,⟨p0,p1,p2,p3⟩,⟨q0,q1,q2⟩⟩
           | go_keep)
         (first
           | (go_at_call 35;go_fit (HSA.out u1);rintro e u2 ⟨rfl,h2⟩;have kx2:Below WX.heap.size WX u2:=kx1.trans (h2.mono kx1.size))
           | (go_at_call 33;go_fit (HFM.out WX.drew (af HKX.out D0));rintro e u1 ⟨rfl,h1⟩;have kx1:Below WX.heap.size WX u1:=D0.trans h1))
        all_goals
         have HK2:=aa (af HKX.out kx2)
         go_wp2_with fail
         go_roundg (l1-(j+1))
         case measure=>omega
         case rel=>exact⟨j+1,by omega,by omega,by go_num,by rw[HTKJ.out,gK,←HBJ.out];rfl,HK2.out⟩
       ·have HFM:Hid (∀u,Below V.heap.size V u→Calls Tryz.prog 33 #[vC k0 n0 s0 a0 l0 c0,vC k2 n2 s2 a2 l2 c2] u fun e w'=>e=I (vC 1 1 ⟨#[]⟩ none 0 0)∧Below u.heap.size u w'):=HFN.out
        have HSA:Hid (∀u,Calls Tryz.prog 35 #[vC 1 1 ⟨#[]⟩ none 0 0] u fun e w'=>e=I (D C 1)∧Below u.heap.size u w'):=fun u=>bQ 1 1 ⟨#[]⟩ none 0 0 u
        clear HFN
        go_region_held3 (fun W'=>((W'.cell? ⟨b,off,none⟩=some (D C k0)∧W'.cell? ⟨b,off+1,none⟩=some (D C n0)∧W'.cell? ⟨b,off+2,none⟩=some (F s0)∧W'.cell? ⟨b,off+3,none⟩=some (E a0 l0 c0))∧(W'.cell? ⟨XB,0,none⟩=some (D C k2)∧W'.cell? ⟨XB,1,none⟩=some (D C n2)∧W'.cell? ⟨XB,2,none⟩=some (F s2)∧W'.cell? ⟨XB,3,none⟩=some (E a2 l2 c2))∧(W'.cell? ⟨RB,0,none⟩=some (D C 0)∧W'.cell? ⟨RB,1,none⟩=some (D C 2)∧W'.cell? ⟨RB,2,none⟩=some (D C 1))))
         (first
           | with_reducible exact HS.out _ kx2
           | with_reducible exact HS.out _ kx1
           | with_reducible exact HS.out _ D0
           | exact⟨⟨x0,x1,x2,x3⟩,⟨p0,p1,p2,p3⟩,⟨q0,q1,q2⟩⟩
           | go_keep)
         (first
           | (go_at_call 35;go_fit (HSA.out u1);rintro e u2 ⟨rfl,h2⟩;have kx2:Below WX.heap.size WX u2:=kx1.trans (h2.mono kx1.size))
           | (go_at_call 33;go_fit (HFM.out WX.drew (af HKX.out D0));rintro e u1 ⟨rfl,h1⟩;have kx1:Below WX.heap.size WX u1:=D0.trans h1))
        all_goals
         have HK2:=aa (af HKX.out kx2)
         go_wp2_with fail
         go_roundg (l1-(j+1))
         case measure=>omega
         case rel=>exact⟨j+1,by omega,by omega,by go_num,by rw[HTKJ.out,gK,←HBJ.out];rfl,HK2.out⟩
       ·have HFM:Hid (∀u,Below V.heap.size V u→Calls Tryz.prog 33 #[vC k0 n0 s0 a0 l0 c0,vC k2 n2 s2 a2 l2 c2] u fun e w'=>e=I (vC 0 0 ⟨#[]⟩ none 0 0)∧Below u.heap.size u w'):=HFN.out
        have HSA:Hid (∀u,Calls Tryz.prog 35 #[vC 0 0 ⟨#[]⟩ none 0 0] u fun e w'=>e=I (D C 2)∧Below u.heap.size u w'):=fun u=>bQ 0 0 ⟨#[]⟩ none 0 0 u
        clear HFN
        go_region_held3 (fun W'=>((W'.cell? ⟨b,off,none⟩=some (D C k0)∧W'.cell? ⟨b,off+1,none⟩=some (D C n0)∧W'.cell? ⟨b,off+2,none⟩=some (F s0)∧W'.cell? ⟨b,off+3,none⟩=some (E a0 l0 c0))∧(W'.cell? ⟨XB,0,none⟩=some (D C k2)∧W'.cell? ⟨XB,1,none⟩=some (D C n2)∧W'.cell? ⟨XB,2,none⟩=some (F s2)∧W'.cell? ⟨XB,3,none⟩=some (E a2 l2 c2))∧(W'.cell? ⟨RB,0,none⟩=some (D C 0)∧W'.cell? ⟨RB,1,none⟩=some (D C 2)∧W'.cell? ⟨RB,2,none⟩=some (D C 1))))
         (first
           | with_reducible exact HS.out _ kx2
           | with_reducible exact HS.out _ kx1
           | with_reducible exact HS.out _ D0
           | exact⟨⟨x0,x1,x2,x3⟩,⟨p0,p1,p2,p3⟩,⟨q0,q1,q2⟩⟩
           | go_keep)
         (first
           | (go_at_call 35;go_fit (HSA.out u1);rintro e u2 ⟨rfl,h2⟩;have kx2:Below WX.heap.size WX u2:=kx1.trans (h2.mono kx1.size))
           | (go_at_call 33;go_fit (HFM.out WX.drew (af HKX.out D0));rintro e u1 ⟨rfl,h1⟩;have kx1:Below WX.heap.size WX u1:=D0.trans h1))
        all_goals
         have HK2:=aa (af HKX.out kx2)
         go_wp2_with fail
         go_roundg (l1-(j+1))
         case measure=>omega
         case rel=>exact⟨j+1,by omega,by omega,by go_num,by rw[HTKJ.out,gK,←HBJ.out];rfl,HK2.out⟩
      ·have hjl:¬(j:Int)<l1:=by omega
       have hjj:L1.take j=L1:=List.take_of_length_le (by have:=HLN.out;omega)
       rw[hjj]
       obtain⟨bj,hbj⟩:∃z,z=cB (L1.map (aU (.node k0 n0 s0 L0))):=⟨_,rfl⟩
       rw[←hbj] at HVE1 ⊢
       have hrg:bj=0∨bj=1∨bj=2:=by have:=hH (L1.map (aU (.node k0 n0 s0 L0)));omega
       have hRV1:RB+1<wr.heap.size:=by have:=HRBz.out;have:=hbq.size;omega
       have hB14:=(hbq.block (RB+1) (by have:=HRBz.out;omega)).trans HV14.out
       obtain⟨q0,q1,q2⟩:=cj hB14
       simp at q0 q1 q2
       have HKQ:=aa hbq
       clear hB14 hbq hjj hbj
       rcases hrg with rfl | rfl | rfl
       ·have HVE2:Hid (opF 9 (A.map G) = .node 1 0 ⟨#[]⟩ []):=HVE1.out.trans ((if_neg (by decide)).trans (if_neg (by decide)))
        have HTR:=aa (dj 0 1 0 rfl wr)
        go_wp2_with fail
        refine HTR.out.mono ?_
        rintro e u2 ⟨rfl,kz⟩
        have HK2:=aa (af HKQ.out kz)
        clear kz q0 q1 q2
        have HQ:=aa (HR1.out u2 (HBV.out.trans (HK2.out.mono (by omega))))
        obtain⟨⟨r0,r1,r2,r3⟩,hsq⟩:=bX HQ.out
        obtain⟨f0,f1,f2,f3⟩:=aq HQ.out
        go_wp2_with fail
        obtain⟨Y,eY,⟨t0,t1,t2,t3⟩,hbb,hoth,hsz⟩:=ba (w:=w) HQ.out rfl (af HWV.out HK2.out) (by omega) (D C 1) (D C 0) (F ⟨#[]⟩) (E none 0 0)
        rw[eY]
        exact bodyPost_ret (v:=vC (1) (0) ⟨#[]⟩ none 0 0) (by simp[results,Tryz.results12,go_sem,t0,t1,t2,t3]) rfl ⟨(by rw[HVE2.out];exact aL.flat _ _ _ (by decide)),hbb⟩
       ·have HVE2:Hid (opF 9 (A.map G) = .node 0 0 ⟨#[]⟩ []):=HVE1.out.trans ((if_neg (by decide)).trans (if_pos rfl))
        have HTR:=aa (dj 2 0 0 rfl wr)
        go_wp2_with fail
        refine HTR.out.mono ?_
        rintro e u2 ⟨rfl,kz⟩
        have HK2:=aa (af HKQ.out kz)
        clear kz q0 q1 q2
        have HQ:=aa (HR1.out u2 (HBV.out.trans (HK2.out.mono (by omega))))
        obtain⟨⟨r0,r1,r2,r3⟩,hsq⟩:=bX HQ.out
        obtain⟨f0,f1,f2,f3⟩:=aq HQ.out
        go_wp2_with fail
        obtain⟨Y,eY,⟨t0,t1,t2,t3⟩,hbb,hoth,hsz⟩:=ba (w:=w) HQ.out rfl (af HWV.out HK2.out) (by omega) (D C 0) (D C 0) (F ⟨#[]⟩) (E none 0 0)
        rw[eY]
        exact bodyPost_ret (v:=vC (0) (0) ⟨#[]⟩ none 0 0) (by simp[results,Tryz.results12,go_sem,t0,t1,t2,t3]) rfl ⟨(by rw[HVE2.out];exact aL.flat _ _ _ (by decide)),hbb⟩
       ·have HVE2:Hid (opF 9 (A.map G) = .node 1 1 ⟨#[]⟩ []):=HVE1.out.trans (if_pos rfl)
        have HTR:=aa (dj 1 1 1 rfl wr)
        go_wp2_with fail
        refine HTR.out.mono ?_
        rintro e u2 ⟨rfl,kz⟩
        have HK2:=aa (af HKQ.out kz)
        clear kz q0 q1 q2
        have HQ:=aa (HR1.out u2 (HBV.out.trans (HK2.out.mono (by omega))))
        obtain⟨⟨r0,r1,r2,r3⟩,hsq⟩:=bX HQ.out
        obtain⟨f0,f1,f2,f3⟩:=aq HQ.out
        go_wp2_with fail
        obtain⟨Y,eY,⟨t0,t1,t2,t3⟩,hbb,hoth,hsz⟩:=ba (w:=w) HQ.out rfl (af HWV.out HK2.out) (by omega) (D C 1) (D C 1) (F ⟨#[]⟩) (E none 0 0)
        rw[eY]
        exact bodyPost_ret (v:=vC (1) (1) ⟨#[]⟩ none 0 0) (by simp[results,Tryz.results12,go_sem,t0,t1,t2,t3]) rfl ⟨(by rw[HVE2.out];exact aL.flat _ _ _ (by decide)),hbb⟩
    ·have hk4':(k1 != 4)=true:=by simp[hk4]
     have HVE2:Hid (opF 9 (A.map G)=aw):=HVE.out.trans (if_neg hk4)
     clear hk4
     have HQ:=aa (HR1.out V HBV.out)
     obtain⟨⟨r0,r1,r2,r3⟩,hsq⟩:=bX HQ.out
     obtain⟨f0,f1,f2,f3⟩:=aq HQ.out
     go_wp2_with fail
     obtain⟨Y,eY,⟨t0,t1,t2,t3⟩,hbb,hoth,hsz⟩:=ba (w:=w) HQ.out rfl (HWV.out) (by omega) (D C 0) (D C 0) (F ⟨#[]⟩) (E none 0 0)
     rw[eY]
     exact bodyPost_ret (v:=vC (0) (0) ⟨#[]⟩ none 0 0) (by simp[results,Tryz.results12,go_sem,t0,t1,t2,t3]) rfl ⟨(by rw[HVE2.out];exact aL.null),hbb⟩
end Go.Proofs.YtijjpoohhgapoaaGreatDoor

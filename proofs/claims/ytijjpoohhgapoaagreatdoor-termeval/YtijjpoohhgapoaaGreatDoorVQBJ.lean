import Derived.Test.YtijjpoohhgapoaaGreatDoorVQBF
import Derived.Lib.OthersKept
import Derived.Lib.RuneCount
namespace Go.Proofs.YtijjpoohhgapoaaGreatDoor
open Go.RowKit
set_option linter.unusedVariables false
set_option maxHeartbeats 4000000
set_option maxRecDepth 100000
open IntKind renaming i64 → C
open Value renaming int → D, slice → E, string → F, agg → R
open Obj renaming cells → H
open List renaming mem_cons_self → I, drop_eq_nil_of_le → J
open Nat renaming le_refl → K, zero_mul → N, add_zero → O
open RowKit.Below renaming refl → M
open Ending renaming returned → Q
theorem rC {k n:Int} {s:ByteArray} {L:List T} (h:Ck 6 (.node k n s L)) (hL:L ≠ []):k=4:=by
 cases h<;>first | rfl | (exact absurd rfl hL)
theorem pE (s:ByteArray) (i:Nat):1≤(Utf8.decode s i).2:=by
 rw[Lib.decode_at]
 unfold Lib.decodeN
 repeat' split
 all_goals simp
theorem tvA {B:Nat} (w0 w:World) (na:Option Addr) (nl nc:Nat) (ea:Option Addr) (el ec:Nat) (next:Int) (vk vn:Int) (vs:ByteArray) (va:Option Addr) (vl vc:Nat) (nm:ByteArray) (a:Option Addr) (l c:Nat) (Lv:List T) (A:List Tm) (m:Nat) (hw:Below w0.heap.size w0 w) (hB:B≤w0.heap.size) (hT:bD B w0) (ht:bd w0 4 vk vn vs va vl vc nm a l c Lv A) (o:Nat) (hgrp:o=15∨o=12∨o=10∨o=14∨o=13∨o=3∨o=4∨o=11) (ho:bN nm=some o) (htk:an o = -1∨an o=A.length) (h30:A.length≤30) (G:Tm→T) (hcw:∀y ∈ A,Ck 6 (G y)) (IH:∀(xk xvk xvn:Int) (xvs:ByteArray) (xva:Option Addr) (xvl xvc:Nat) (xnm:ByteArray) (xa:Option Addr) (xl xc:Nat) (Lv:List T) (A':List Tm),bd w0 xk xvk xvn xvs xva xvl xvc xnm xa xl xc Lv A'→.node xk (.node xvk xvn xvs Lv) xnm A' ∈ A→∀W,Below w0.heap.size w0 W→Calls Tryz.prog 12 #[R #[E na nl nc,E ea el ec,D C next],.map (some m),R #[D C xk,D C xvk,D C xvn,F xvs,E xva xvl xvc,F xnm,E xa xl xc]] W fun e w'=>aL (fun i=>i<w0.heap.size) W w' (G (.node xk (.node xvk xvn xvs Lv) xnm A')) e∧Below W.heap.size W w'):Calls Tryz.prog 12 #[R #[E na nl nc,E ea el ec,D C next],.map (some m),R #[D C 4,D C vk,D C vn,F vs,E va vl vc,F nm,E a l c]] w fun e w'=>aL (fun i=>i<w0.heap.size) w w' (opF o (A.map G)) e∧Below w.heap.size w w':=by
 have HGRP:=aa hgrp
 clear hgrp
 have hlen:=ht.args.len.1
 have hl30:l≤30:=by rw[hlen];exact h30
 obtain⟨i0,hi0,hiz,his,hib⟩:=dw
 have HI0:=aa hi0
 have HIZ:=aa hiz
 have HIS:=aa his
 have HIB:=aa hib
 have HAR:=aa ht.args
 have HLEN:=aa hlen
 have HIH:=aa IH
 have HCW:=aa hcw
 have HTK:=aa htk
 have HTB:=aa hT
 have HBB:=aa hB
 have HO:=aa ho
 have hb3:Below w.heap.size w (((w.alloc (H #[E na nl nc,E ea el ec,D C next] 25)).alloc (H #[D C 4,D C vk,D C vn,F vs,E va vl vc,F nm,E a l c] 33)).alloc (H #[D C 0,D C 0,F ⟨#[]⟩,E none 0 0] 30)):=(((M _ _).alloc (K _) _).alloc (by simp) _).alloc (by simp;omega) _
 have hz:(((w.alloc (H #[E na nl nc,E ea el ec,D C next] 25)).alloc (H #[D C 4,D C vk,D C vn,F vs,E va vl vc,F nm,E a l c] 33)).alloc (H #[D C 0,D C 0,F ⟨#[]⟩,E none 0 0] 30)).heap.size=w.heap.size+3:=by simp
 have h0:(((w.alloc (H #[E na nl nc,E ea el ec,D C next] 25)).alloc (H #[D C 4,D C vk,D C vn,F vs,E va vl vc,F nm,E a l c] 33)).alloc (H #[D C 0,D C 0,F ⟨#[]⟩,E none 0 0] 30)).heap[w.heap.size]? = some (H #[E na nl nc,E ea el ec,D C next] 25 (0,0)):=(aK w (H #[E na nl nc,E ea el ec,D C next] 25) (H #[D C 4,D C vk,D C vn,F vs,E va vl vc,F nm,E a l c] 33) (H #[D C 0,D C 0,F ⟨#[]⟩,E none 0 0] 30)).1
 have h1:(((w.alloc (H #[E na nl nc,E ea el ec,D C next] 25)).alloc (H #[D C 4,D C vk,D C vn,F vs,E va vl vc,F nm,E a l c] 33)).alloc (H #[D C 0,D C 0,F ⟨#[]⟩,E none 0 0] 30)).heap[w.heap.size+1]? = some (H #[D C 4,D C vk,D C vn,F vs,E va vl vc,F nm,E a l c] 33 (0,0)):=(aK w (H #[E na nl nc,E ea el ec,D C next] 25) (H #[D C 4,D C vk,D C vn,F vs,E va vl vc,F nm,E a l c] 33) (H #[D C 0,D C 0,F ⟨#[]⟩,E none 0 0] 30)).2.1
 have h2:(((w.alloc (H #[E na nl nc,E ea el ec,D C next] 25)).alloc (H #[D C 4,D C vk,D C vn,F vs,E va vl vc,F nm,E a l c] 33)).alloc (H #[D C 0,D C 0,F ⟨#[]⟩,E none 0 0] 30)).heap[w.heap.size+2]? = some (H #[D C 0,D C 0,F ⟨#[]⟩,E none 0 0] 30 (0,0)):=(aK w (H #[E na nl nc,E ea el ec,D C next] 25) (H #[D C 4,D C vk,D C vn,F vs,E va vl vc,F nm,E a l c] 33) (H #[D C 0,D C 0,F ⟨#[]⟩,E none 0 0] 30)).2.2
 have HB:=aa hb3
 have HZ:=aa hz
 have H0:=aa h0
 have H1:=aa h1
 have H2:=aa h2
 clear hb3 hz h0 h1 h2
 have HW:=aa hw
 have HSZ:=aa hw.size
 clear ht hT hi0 hiz his hib hw hlen IH hcw htk hB h30 ho
 go_enter Tryz.func12,Tryz.ntmps12
 go_upto_region 1 with fail
 generalize (((w.alloc (H #[E na nl nc,E ea el ec,D C next] 25)).alloc (H #[D C 4,D C vk,D C vn,F vs,E va vl vc,F nm,E a l c] 33)).alloc (H #[D C 0,D C 0,F ⟨#[]⟩,E none 0 0] 30))=W at HB HZ H0 H1 H2 ⊢
 have HG1:Hid (∀u,Below (w.heap.size+3) W u→u.heap[w.heap.size]? = some (H #[E na nl nc,E ea el ec,D C next] 25 (0,0))):=fun u k=>(k.block w.heap.size (by omega)).trans H0.out
 have HT1:Hid (∀u,Below (w.heap.size+3) W u→u.heap[w.heap.size+1]? = some (H #[D C 4,D C vk,D C vn,F vs,E va vl vc,F nm,E a l c] 33 (0,0))):=fun u k=>(k.block (w.heap.size+1) (by omega)).trans H1.out
 have HR1:Hid (∀u,Below (w.heap.size+3) W u→u.heap[w.heap.size+2]? = some (H #[D C 0,D C 0,F ⟨#[]⟩,E none 0 0] 30 (0,0))):=fun u k=>(k.block (w.heap.size+2) (by omega)).trans H2.out
 have c0:=ac H1.out 0
 have c6:=ac H1.out 6
 simp at c0 c6
 have z1:w.heap.size+1<W.heap.size:=by rw[HZ.out];omega
 go_wp2_with fail
 clear c0 c6 z1
 go_loopg [10,75] l (fun q s10 s75 wr=>∃(i:Nat) (xs:List VR) (ov:Value),i≤l∧l-i≤q∧ov=s10∧s75=D C i∧xs.length=i∧wr.ownsRow (w.heap.size+3) 30 4 ov i (bR xs)∧Below (w.heap.size+3) W wr∧aA (VR.In (fun j=>(j<w0.heap.size∨w.heap.size+3≤j)∧ov.ownBlock≠some j) wr) xs ((A.take i).map G))
 case atStart=>exact⟨0,[],E none 0 0,Nat.zero_le _,by omega,rfl,rfl,rfl,World.ownsRow_nil _ _ _ _,M _ _,by simpa using aA.nil⟩
 case round=>
  obtain⟨i,xs,ov,hi,hg,rfl,rfl,hxs,hown,hbw,hpr⟩:=hrel
  have HOWN:=aa hown
  have HPR:=aa hpr
  have HXS:=aa hxs
  have hzw:w.heap.size+3≤wr.heap.size:=by have:=hbw.size;rw[HZ.out] at this;exact this
  have hw0:Below w.heap.size w wr:=HB.out.trans (hbw.mono (by omega))
  have hw00:Below w0.heap.size w0 wr:=HW.out.trans (hw0.mono HSZ.out)
  clear hown hpr hxs
  by_cases hlt:i<l
  ·obtain⟨b2,off2,xk,xvk,xvn,xvs,xva,xvl,xvc,xnm,xa,xl,xc,Lv',A',ha2,hbl2,hd,⟨e0,e1,e2,e3,e4,e5,e6⟩,hta⟩:=HAR.out.at (i:=i) hlt
   have HC:=aa (HIH.out xk xvk xvn xvs xva xvl xvc xnm xa xl xc Lv' A' hta (List.mem_of_mem_drop (i:=i) (by rw[hd];exact I ..)))
   have HTK2:Hid (A.take (i+1)=A.take i ++ [.node xk (.node xvk xvn xvs Lv') xnm A']):=by
    have e:A[i]? = some (.node xk (.node xvk xvn xvs Lv') xnm A'):=by
     have:=List.getElem?_drop (xs:=A) (i:=i) (j:=0)
     rw[hd] at this
     simpa using this.symm
    show A.take (i+1)=_
    rw[List.take_add_one,e]
    rfl
   subst ha2
   have q2:∀o,wr.cell? ⟨b2,o,none⟩=w0.cell? ⟨b2,o,none⟩:=fun o=>hw00.cell (p:=⟨b2,o,none⟩) hbl2
   have d0:=(q2 _).trans e0
   have d1:=(q2 _).trans e1
   have d2:=(q2 _).trans e2
   have d3:=(q2 _).trans e3
   have d4:=(q2 _).trans e4
   have d5:=(q2 _).trans e5
   have d6:=(q2 _).trans e6
   have hil:(i:Int)<l:=by omega
   have hkx:Below wr.heap.size wr (wr.alloc (H #[D C xk,D C xvk,D C xvn,F xvs,E xva xvl xvc,F xnm,E xa xl xc] 33)):=(M _ _).alloc (K _) _
   have hxb:=ae wr (H #[D C xk,D C xvk,D C xvn,F xvs,E xva xvl xvc,F xnm,E xa xl xc] 33)
   have hzx:(wr.alloc (H #[D C xk,D C xvk,D C xvn,F xvs,E xva xvl xvc,F xnm,E xa xl xc] 33)).heap.size=wr.heap.size+1:=by simp
   have HOX:=aa (HOWN.out.alloc (H #[D C xk,D C xvk,D C xvn,F xvs,E xva xvl xvc,F xnm,E xa xl xc] 33))
   have HBX:=aa (hbw.trans (hkx.mono hzw))
   have HKX:=aa hkx
   have HXB:=aa hxb
   have HZX:=aa hzx
   have HW0X:=aa (show Below w0.heap.size w0 (wr.alloc (H #[D C xk,D C xvk,D C xvn,F xvs,E xva xvl xvc,F xnm,E xa xl xc] 33)) from hw00.trans (hkx.mono hw00.size))
   clear e0 e1 e2 e3 e4 e5 e6 q2 hd hta hkx hxb hzx hbw hw0 hw00
   go_upto_region 18 with fail
   clear d0 d1 d2 d3 d4 d5 d6
   generalize wr.alloc (H #[D C xk,D C xvk,D C xvn,F xvs,E xva xvl xvc,F xnm,E xa xl xc] 33)=WX at HOX HBX HKX HXB HZX HW0X ⊢
   obtain⟨g0,g1,g2,g3,g4,g5,g6⟩:=bV HXB.out
   simp at g0 g1 g2 g3 g4 g5 g6
   have hgb:=HG1.out WX HBX.out
   obtain⟨v0,v1,v2⟩:=cj hgb
   simp at v0 v1 v2
   have hgs:w.heap.size<WX.heap.size:=lt_block' hgb
   clear hgb
   have hwX:wr.heap.size<WX.heap.size:=by rw[HZX.out];omega
   have HBy:(i+1)*56≤140737488355328:=by omega
   have HBm:i+1≤maxLen:=by unfold maxLen;omega
   go_wp2_with fail
   refine(HC.out _ HW0X.out).mono ?_
   rintro e u1 ⟨⟨rk,rn,rs,ra,rl,rc,Lr,rfl,hre,hrlc,hrs,hrL⟩,k1⟩
   have hu1:WX.heap.size≤u1.heap.size:=k1.size
   have hown2:u1.ownsRow (w.heap.size+3) 30 4 ov i (bR xs):=da HOX.out (fun g _ hgl=>k1.block g hgl)
   have hu2:w.heap.size+3≤u1.heap.size:=by omega
   have K1:=aa k1
   have HRE:=aa hre
   have HRL:=aa hrL
   have HRS:=aa (show rl≤rc∧rs.size≤9223372036854775807 from⟨hrlc,hrs⟩)
   have HO2:=aa hown2
   clear k1 hre hrL hrlc hrs hown2 g0 g1 g2 g3 g4 g5 g6 v0 v1 v2
   go_wp2_with (at_builtin;refine wpList_append_lies _ rfl _ _ 28 rfl (w.heap.size+3) 30 i0 _ 4 56 Tryz.underlying28 HI0.out HIZ.out HIS.out HIB.out rfl (by omega) ov i (bR xs) rfl (HO2.out.alloc _) ⟨u1.heap.size,0,none⟩ 1 1 ((⟨rk,rn,rs,ra,rl,rc⟩:VR).cells) rfl rfl (World.news_of_block (cs:=#[D C rk,D C rn,F rs,E ra rl rc]) (t:=30) (fr:=(0,0)) (ae u1 _)) (by simp[VR.cells,Value.oneCell']) (by omega) HBm HBy (by simp;omega) (u1.heap.size+1) (by simp) ?_)
   intro gg cap w5 hown5 hgrow hat5 hlt5
   have k1:=K1.out
   have hown2:=HO2.out
   have hle:=HSZ.out
   have hzx:=HZX.out
   have hb6:Below (w.heap.size+3) W w5:=((HBX.out.trans (k1.mono (by omega))).alloc (by omega) _).grown hgrow (by simp;omega) (fun j hj=>(hown2.lt j hj).1)
   have hsz5:u1.heap.size+1≤w5.heap.size:=by have:=hgrow.size;simpa using this
   have hkeep:∀j,ov.ownBlock≠some j→j<u1.heap.size→some gg≠some j∧w5.heap[j]? = u1.heap[j]?:=fun j hj hl=>by
    refine⟨fun e=>?_,?_⟩
    ·rcases hat5 with h | h
     ·exact hj (h.trans e)
     ·injection e with e;omega
    ·have q1:=hgrow.block j (by simp;omega) (Ne.symm hj)
     have q2:=((M u1.heap.size u1).alloc (K _) (H #[D C rk,D C rn,F rs,E ra rl rc] 30)).block j hl
     exact q1.trans q2
   have hold:aA (VR.In (fun j=>(j<w0.heap.size∨w.heap.size+3≤j)∧(Value.slice (some ⟨gg,0,none⟩) (i+1) cap).ownBlock≠some j) w5) xs ((A.take i).map G):=HPR.out.mono fun p x _ _ hp=>hp.kept (by omega) fun j hj hl=>by
    obtain⟨r1,r2⟩:=hkeep j hj.2 (by omega)
    exact⟨⟨hj.1,r1⟩,r2.trans ((k1.block j (by omega)).trans (HKX.out.block j hl))⟩
   have hnew:VR.In (fun j=>(j<w0.heap.size∨w.heap.size+3≤j)∧(Value.slice (some ⟨gg,0,none⟩) (i+1) cap).ownBlock≠some j) w5 (⟨rk,rn,rs,ra,rl,rc⟩:VR) (G (.node xk (.node xvk xvn xvs Lv') xnm A')):=⟨Lr,HRE.out,HRS.out.2,HRS.out.1,ap.kept (by omega) (fun j hj hl=>by
    have hn:ov.ownBlock≠some j:=fun e=>by
     have:=HOWN.out.lt j e
     rcases hj with h | h<;>omega
    obtain⟨r1,r2⟩:=hkeep j hn hl
    refine⟨⟨?_,r1⟩,r2⟩
    have hd:WX.drew.heap.size=WX.heap.size:=rfl
    rcases hj with h | h
    ·exact .inl h
    ·exact .inr (by omega)) _ _ _ HRL.out⟩
   have HP5:Hid (aA (VR.In (fun j=>(j<w0.heap.size∨w.heap.size+3≤j)∧(Value.slice (some ⟨gg,0,none⟩) (i+1) cap).ownBlock≠some j) w5) (xs ++ [(⟨rk,rn,rs,ra,rl,rc⟩:VR)]) ((A.take (i+1)).map G)):=by
    show aA _ _ _
    rw[HTK2.out,List.map_append]
    exact hold.snoc hnew
   have HOWN5:Hid (w5.ownsRow (w.heap.size+3) 30 4 (E (some ⟨gg,0,none⟩) (i+1) cap) (i+1) (bR (xs ++ [(⟨rk,rn,rs,ra,rl,rc⟩:VR)]))):=by
    rw[dR]
    exact hown5
   have HB6:=aa hb6
   clear hb6 hown5 hgrow hat5 hlt5 hown2 k1 hu1 hold hnew hkeep hsz5 hle hzx
   go_wp2_with fail
   go_roundg (l-(i+1))
   case measure=>omega
   case rel=>exact⟨i+1,xs ++ [(⟨rk,rn,rs,ra,rl,rc⟩:VR)],E (some ⟨gg,0,none⟩) (i+1) cap,by omega,by omega,rfl,by go_num,by rw[List.length_append,HXS.out];rfl,HOWN5.out,HB6.out,HP5.out⟩
  ·have hil:¬(i:Int)<l:=by omega
   have hll:i=l:=by omega
   have hA:A.take i=A:=List.take_of_length_le (by have:=HLEN.out;omega)
   have hpr:=HPR.out
   rw[hA] at hpr
   obtain⟨oa,oc,hov,hlc,hLA⟩:∃oa oc,ov=E oa l oc∧l≤oc∧ap (fun j=>j<w0.heap.size∨w.heap.size+3≤j) wr (A.map G) oa l:=by
    obtain⟨oa,ol,oc,hov⟩:∃oa ol oc,ov=E oa ol oc:=by
     rcases HOWN.out.2 with⟨e,_⟩ | ⟨g,cap,cur,e,_⟩
     ·exact⟨_,_,_,e⟩
     ·exact⟨_,_,_,e⟩
    subst hov
    have hr:=HOWN.out
    rw[←HXS.out] at hr
    obtain⟨v1,v2,v3⟩:=dI (n:=0) (A:=fun j=>j<w0.heap.size∨w.heap.size+3≤j) hr (fun g hg=>.inr (by omega)) (hpr.mono fun p x _ _ hp=>hp.kept (K _) fun j hj _=>⟨hj.1,rfl⟩)
    have e:ol=l:=by rw[v1,List.length_map,←HLEN.out]
    rw[e] at v2 v3
    exact⟨oa,oc,by rw[e],v2,v3⟩
   subst hov
   obtain⟨TS,hTS⟩:∃z,z=A.map G:=⟨_,rfl⟩
   rw[←hTS] at hLA
   have HTS:=aa hTS
   have HCS:Hid (∀t ∈ TS,Ck 6 t):=fun t ht=>by
    rw[hTS] at ht
    obtain⟨y,hy,rfl⟩:=List.mem_map.1 ht
    exact HCW.out y hy
   have hVb:Below wr.heap.size wr ((wr.alloc (H #[D C 0,D C 2,D C 1] 3)).alloc (H #[D C 0,D C 2,D C 1] 3)):=((M _ _).alloc (K _) _).alloc (by simp) _
   have HV13:Hid (((wr.alloc (H #[D C 0,D C 2,D C 1] 3)).alloc (H #[D C 0,D C 2,D C 1] 3)).heap[wr.heap.size]? = some (H #[D C 0,D C 2,D C 1] 3 (0,0))):=(Below.heap_alloc (wr.alloc (H #[D C 0,D C 2,D C 1] 3)) (H #[D C 0,D C 2,D C 1] 3) wr.heap.size (by simp)).trans (ae wr (H #[D C 0,D C 2,D C 1] 3))
   have HV14:=aa (ay wr (H #[D C 0,D C 2,D C 1] 3) (H #[D C 0,D C 2,D C 1] 3))
   have HZV:Hid (((wr.alloc (H #[D C 0,D C 2,D C 1] 3)).alloc (H #[D C 0,D C 2,D C 1] 3)).heap.size=wr.heap.size+2):=by show _=_;simp
   have HBV:=aa (hbw.trans (hVb.mono (by have:=hbw.size;rw[HZ.out] at this;exact this)))
   have HWV:=aa (af hw0 hVb)
   have HLV:=aa (hLA.below hVb)
   have hzwr:w.heap.size+3≤wr.heap.size:=by have:=hbw.size;rw[HZ.out] at this;exact this
   have HLC:=aa hlc
   clear hVb hLA hpr hA hTS hbw hw0 hw00 HOWN HPR hlc
   go_upto_region 22 with fail
   generalize (wr.alloc (H #[D C 0,D C 2,D C 1] 3)).alloc (H #[D C 0,D C 2,D C 1] 3)=V at HV13 HV14 HZV HBV HWV HLV ⊢
   have c5:=ac (HT1.out V HBV.out) 5
   simp at c5
   have z5:w.heap.size+1<V.heap.size:=lt_block' (HT1.out V HBV.out)
   have hV3:w.heap.size+3≤V.heap.size:=by have:=HZV.out;omega
   rcases HGRP.out with rfl | rfl | rfl | rfl | rfl | rfl | rfl | rfl
   ·have hm0:(nm.toList == [43])=false:=ak (j:=0) HO.out rfl (by decide)
    have hm1:(nm.toList == [45])=false:=ak (j:=1) HO.out rfl (by decide)
    have hm2:(nm.toList == [42])=false:=ak (j:=2) HO.out rfl (by decide)
    have hm3:(nm.toList == [61])=false:=ak (j:=3) HO.out rfl (by decide)
    have hm4:(nm.toList == [60])=false:=ak (j:=4) HO.out rfl (by decide)
    have hm5:(nm.toList == [60,61])=false:=ak (j:=5) HO.out rfl (by decide)
    have hm6:(nm.toList == [110,111,116])=false:=ak (j:=6) HO.out rfl (by decide)
    have hm7:(nm.toList == [111,114])=false:=ak (j:=7) HO.out rfl (by decide)
    have hm8:(nm.toList == [97,110,100])=false:=ak (j:=8) HO.out rfl (by decide)
    have hm10:(nm.toList == [110,117,108,108])=false:=ak (j:=10) HO.out rfl (by decide)
    have hm9:(nm.toList == [105,110])=false:=ak (j:=9) HO.out rfl (by decide)
    have hm11:(nm.toList == [115,105,122,101])=false:=ak (j:=11) HO.out rfl (by decide)
    have hm12:(nm.toList == [104,101,97,100])=false:=ak (j:=12) HO.out rfl (by decide)
    have hm13:(nm.toList == [99,111,97,108,101,115,99,101])=false:=ak (j:=13) HO.out rfl (by decide)
    have hm14:(nm.toList == [108,105,115,116])=false:=ak (j:=14) HO.out rfl (by decide)
    have hm15:(nm.toList == [105,100])=true:=b9 HO.out rfl
    have hl2:l=1:=by
     have h:=HTK.out
     have h2:=HLEN.out
     rw[show an 15=1 from by decide] at h
     omega
    obtain⟨b,off,k0,n0,s0,L0,a0,l0,c0,ha,hAb,hbl,hd0,x0,x1,x2,x3,hlc0,hs0,hL0⟩:=HLV.out.at (i:=0) (by omega)
    subst ha
    rw[N,O] at x0 x1 x2 x3
    have hb2:b≠w.heap.size+2:=by have h1:=HSZ.out;rcases hAb with h | h<;>omega
    have HTL:Hid (TS = [.node k0 n0 s0 L0]):=by
     have e0:TS = .node k0 n0 s0 L0::TS.drop 1:=by simpa using hd0
     have e3:TS.drop 1 = []:=J (by have:=HLV.out.len.1;omega)
     rw[e3] at e0
     exact e0
    have HC0:Hid (Ck 6 (.node k0 n0 s0 L0)):=HCS.out _ (by rw[HTL.out];exact I ..)
    have HL0:=aa hL0
    have HC:=aa (show l0≤c0∧s0.size≤9223372036854775807 from⟨hlc0,hs0⟩)
    clear hd0 hL0 hlc0 hs0
    have HVE:Hid (opF 15 (A.map G) = .node k0 n0 s0 L0):=by
     show _=_
     rw[←HTS.out,HTL.out]
     rfl
    subst hl2
    have HQ:=aa (HR1.out V HBV.out)
    obtain⟨⟨r0,r1,r2,r3⟩,hsq⟩:=bX HQ.out
    obtain⟨f0,f1,f2,f3⟩:=aq HQ.out
    go_wp2_with fail
    obtain⟨Y,eY,⟨t0,t1,t2,t3⟩,hbb,hoth,hsz⟩:=ba (w:=w) HQ.out rfl (HWV.out) (by omega) (D C k0) (D C n0) (F s0) (E a0 l0 c0)
    rw[eY]
    exact bodyPost_ret (v:=vC (k0) (n0) s0 a0 l0 c0) (by simp[results,Tryz.results12,go_sem,t0,t1,t2,t3]) rfl ⟨⟨k0,n0,s0,a0,l0,c0,L0,rfl,HVE.out,HC.out.1,HC.out.2,ap.kept (A':=fun i=>i<w0.heap.size∨w.heap.size≤i) (by omega) (fun j hj hjl=>⟨by rcases hj with h | h;exact .inl h;exact .inr (by omega),hoth j (by have h1:=HSZ.out;rcases hj with h | h<;>omega)⟩) _ _ _ HL0.out⟩,hbb⟩
   ·have hm0:(nm.toList == [43])=false:=ak (j:=0) HO.out rfl (by decide)
    have hm1:(nm.toList == [45])=false:=ak (j:=1) HO.out rfl (by decide)
    have hm2:(nm.toList == [42])=false:=ak (j:=2) HO.out rfl (by decide)
    have hm3:(nm.toList == [61])=false:=ak (j:=3) HO.out rfl (by decide)
    have hm4:(nm.toList == [60])=false:=ak (j:=4) HO.out rfl (by decide)
    have hm5:(nm.toList == [60,61])=false:=ak (j:=5) HO.out rfl (by decide)
    have hm6:(nm.toList == [110,111,116])=false:=ak (j:=6) HO.out rfl (by decide)
    have hm7:(nm.toList == [111,114])=false:=ak (j:=7) HO.out rfl (by decide)
    have hm8:(nm.toList == [97,110,100])=false:=ak (j:=8) HO.out rfl (by decide)
    have hm10:(nm.toList == [110,117,108,108])=false:=ak (j:=10) HO.out rfl (by decide)
    have hm9:(nm.toList == [105,110])=false:=ak (j:=9) HO.out rfl (by decide)
    have hm11:(nm.toList == [115,105,122,101])=false:=ak (j:=11) HO.out rfl (by decide)
    have hm12:(nm.toList == [104,101,97,100])=true:=b9 HO.out rfl
    have hl2:l=1:=by
     have h:=HTK.out
     have h2:=HLEN.out
     rw[show an 12=1 from by decide] at h
     omega
    obtain⟨b,off,k0,n0,s0,L0,a0,l0,c0,ha,hAb,hbl,hd0,x0,x1,x2,x3,hlc0,hs0,hL0⟩:=HLV.out.at (i:=0) (by omega)
    subst ha
    rw[N,O] at x0 x1 x2 x3
    have hb2:b≠w.heap.size+2:=by have h1:=HSZ.out;rcases hAb with h | h<;>omega
    have HTL:Hid (TS = [.node k0 n0 s0 L0]):=by
     have e0:TS = .node k0 n0 s0 L0::TS.drop 1:=by simpa using hd0
     have e3:TS.drop 1 = []:=J (by have:=HLV.out.len.1;omega)
     rw[e3] at e0
     exact e0
    have HC0:Hid (Ck 6 (.node k0 n0 s0 L0)):=HCS.out _ (by rw[HTL.out];exact I ..)
    have HL0:=aa hL0
    have HC:=aa (show l0≤c0∧s0.size≤9223372036854775807 from⟨hlc0,hs0⟩)
    clear hd0 hL0 hlc0 hs0
    have HVE:Hid (opF 12 (A.map G)=if k0=4 then hdT L0 else aw):=by
     show _=_
     rw[←HTS.out,HTL.out]
     rfl
    subst hl2
    have hlen0:=HL0.out.len.1
    by_cases hl0:0<l0
    ·have hl0':(0:Int)<(l0:Int):=by omega
     obtain⟨b4,off4,k4,n4,s4,L4,a4,l4,c4,ha4,hAb4,hbl4,hd4,w0',w1',w2',w3',hlc4,hs4,hL4⟩:=HL0.out.at (i:=0) hl0
     subst ha4
     rw[N,O] at w0' w1' w2' w3'
     have HVE2:Hid (opF 12 (A.map G) = .node k4 n4 s4 L4):=by
      have e0:L0 = .node k4 n4 s4 L4::L0.drop 1:=by simpa using hd4
      refine HVE.out.trans ?_
      rw[if_pos (rC HC0.out (by rw[e0];simp)),e0]
      rfl
     have HL4:=aa hL4
     have HCC:=aa (show l4≤c4∧s4.size≤9223372036854775807 from⟨hlc4,hs4⟩)
     clear hd4 hL4 hlc4 hs4
     have HQ:=aa (HR1.out V HBV.out)
     obtain⟨⟨r0,r1,r2,r3⟩,hsq⟩:=bX HQ.out
     obtain⟨f0,f1,f2,f3⟩:=aq HQ.out
     go_wp2_with fail
     obtain⟨Y,eY,⟨t0,t1,t2,t3⟩,hbb,hoth,hsz⟩:=ba (w:=w) HQ.out rfl (HWV.out) (by omega) (D C k4) (D C n4) (F s4) (E a4 l4 c4)
     rw[eY]
     exact bodyPost_ret (v:=vC (k4) (n4) s4 a4 l4 c4) (by simp[results,Tryz.results12,go_sem,t0,t1,t2,t3]) rfl ⟨⟨k4,n4,s4,a4,l4,c4,L4,rfl,HVE2.out,HCC.out.1,HCC.out.2,ap.kept (A':=fun i=>i<w0.heap.size∨w.heap.size≤i) (by omega) (fun j hj hjl=>⟨by rcases hj with h | h;exact .inl h;exact .inr (by omega),hoth j (by have h1:=HSZ.out;rcases hj with h | h<;>omega)⟩) _ _ _ HL4.out⟩,hbb⟩
    ·have hl0':¬(0:Int)<(l0:Int):=by omega
     have HVE2:Hid (opF 12 (A.map G)=aw):=by
      have e0:L0 = []:=List.length_eq_zero_iff.1 (by omega)
      refine HVE.out.trans ?_
      rw[e0]
      split<;>rfl
     have HQ:=aa (HR1.out V HBV.out)
     obtain⟨⟨r0,r1,r2,r3⟩,hsq⟩:=bX HQ.out
     obtain⟨f0,f1,f2,f3⟩:=aq HQ.out
     go_wp2_with fail
     obtain⟨Y,eY,⟨t0,t1,t2,t3⟩,hbb,hoth,hsz⟩:=ba (w:=w) HQ.out rfl (HWV.out) (by omega) (D C 0) (D C 0) (F ⟨#[]⟩) (E none 0 0)
     rw[eY]
     exact bodyPost_ret (v:=vC (0) (0) ⟨#[]⟩ none 0 0) (by simp[results,Tryz.results12,go_sem,t0,t1,t2,t3]) rfl ⟨(by rw[HVE2.out];exact aL.null),hbb⟩
   ·have hm0:(nm.toList == [43])=false:=ak (j:=0) HO.out rfl (by decide)
    have hm1:(nm.toList == [45])=false:=ak (j:=1) HO.out rfl (by decide)
    have hm2:(nm.toList == [42])=false:=ak (j:=2) HO.out rfl (by decide)
    have hm3:(nm.toList == [61])=false:=ak (j:=3) HO.out rfl (by decide)
    have hm4:(nm.toList == [60])=false:=ak (j:=4) HO.out rfl (by decide)
    have hm5:(nm.toList == [60,61])=false:=ak (j:=5) HO.out rfl (by decide)
    have hm6:(nm.toList == [110,111,116])=false:=ak (j:=6) HO.out rfl (by decide)
    have hm7:(nm.toList == [111,114])=false:=ak (j:=7) HO.out rfl (by decide)
    have hm8:(nm.toList == [97,110,100])=false:=ak (j:=8) HO.out rfl (by decide)
    have hm10:(nm.toList == [110,117,108,108])=true:=b9 HO.out rfl
    have hl2:l=1:=by
     have h:=HTK.out
     have h2:=HLEN.out
     rw[show an 10=1 from by decide] at h
     omega
    obtain⟨b,off,k0,n0,s0,L0,a0,l0,c0,ha,hAb,hbl,hd0,x0,x1,x2,x3,hlc0,hs0,hL0⟩:=HLV.out.at (i:=0) (by omega)
    subst ha
    rw[N,O] at x0 x1 x2 x3
    have hb2:b≠w.heap.size+2:=by have h1:=HSZ.out;rcases hAb with h | h<;>omega
    have HTL:Hid (TS = [.node k0 n0 s0 L0]):=by
     have e0:TS = .node k0 n0 s0 L0::TS.drop 1:=by simpa using hd0
     have e3:TS.drop 1 = []:=J (by have:=HLV.out.len.1;omega)
     rw[e3] at e0
     exact e0
    have HC0:Hid (Ck 6 (.node k0 n0 s0 L0)):=HCS.out _ (by rw[HTL.out];exact I ..)
    have HL0:=aa hL0
    have HC:=aa (show l0≤c0∧s0.size≤9223372036854775807 from⟨hlc0,hs0⟩)
    clear hd0 hL0 hlc0 hs0
    have HVE:Hid (opF 10 (A.map G)=fJ (.node k0 n0 s0 L0)):=by
     show _=_
     rw[←HTS.out,HTL.out]
     rfl
    subst hl2
    by_cases hk:k0=0
    ·have hk':(k0==0)=true:=by simp[hk]
     have HVE2:Hid (opF 10 (A.map G) = .node 1 1 ⟨#[]⟩ []):=HVE.out.trans (by simp[fJ,ei,hk])
     have HTR:=aa (dj 1 1 1 rfl V)
     go_wp2_with fail
     refine HTR.out.mono ?_
     rintro e u1 ⟨rfl,k1⟩
     have HK1:=aa k1
     clear x0 x1 x2 x3 c5 k1
     have HQ:=aa (HR1.out u1 (HBV.out.trans (HK1.out.mono (by have:=HZV.out;omega))))
     obtain⟨⟨r0,r1,r2,r3⟩,hsq⟩:=bX HQ.out
     obtain⟨f0,f1,f2,f3⟩:=aq HQ.out
     go_wp2_with fail
     obtain⟨Y,eY,⟨t0,t1,t2,t3⟩,hbb,hoth,hsz⟩:=ba (w:=w) HQ.out rfl (af HWV.out HK1.out) (by omega) (D C 1) (D C 1) (F ⟨#[]⟩) (E none 0 0)
     rw[eY]
     exact bodyPost_ret (v:=vC (1) (1) ⟨#[]⟩ none 0 0) (by simp[results,Tryz.results12,go_sem,t0,t1,t2,t3]) rfl ⟨(by rw[HVE2.out];exact aL.flat _ _ _ (by decide)),hbb⟩
    ·have hk':(k0==0)=false:=by simp[hk]
     have HVE2:Hid (opF 10 (A.map G) = .node 1 0 ⟨#[]⟩ []):=HVE.out.trans (by simp[fJ,ei,hk])
     have HTR:=aa (dj 0 1 0 rfl V)
     go_wp2_with fail
     refine HTR.out.mono ?_
     rintro e u1 ⟨rfl,k1⟩
     have HK1:=aa k1
     clear x0 x1 x2 x3 c5 k1
     have HQ:=aa (HR1.out u1 (HBV.out.trans (HK1.out.mono (by have:=HZV.out;omega))))
     obtain⟨⟨r0,r1,r2,r3⟩,hsq⟩:=bX HQ.out
     obtain⟨f0,f1,f2,f3⟩:=aq HQ.out
     go_wp2_with fail
     obtain⟨Y,eY,⟨t0,t1,t2,t3⟩,hbb,hoth,hsz⟩:=ba (w:=w) HQ.out rfl (af HWV.out HK1.out) (by omega) (D C 1) (D C 0) (F ⟨#[]⟩) (E none 0 0)
     rw[eY]
     exact bodyPost_ret (v:=vC (1) (0) ⟨#[]⟩ none 0 0) (by simp[results,Tryz.results12,go_sem,t0,t1,t2,t3]) rfl ⟨(by rw[HVE2.out];exact aL.flat _ _ _ (by decide)),hbb⟩
   ·have hm0:(nm.toList == [43])=false:=ak (j:=0) HO.out rfl (by decide)
    have hm1:(nm.toList == [45])=false:=ak (j:=1) HO.out rfl (by decide)
    have hm2:(nm.toList == [42])=false:=ak (j:=2) HO.out rfl (by decide)
    have hm3:(nm.toList == [61])=false:=ak (j:=3) HO.out rfl (by decide)
    have hm4:(nm.toList == [60])=false:=ak (j:=4) HO.out rfl (by decide)
    have hm5:(nm.toList == [60,61])=false:=ak (j:=5) HO.out rfl (by decide)
    have hm6:(nm.toList == [110,111,116])=false:=ak (j:=6) HO.out rfl (by decide)
    have hm7:(nm.toList == [111,114])=false:=ak (j:=7) HO.out rfl (by decide)
    have hm8:(nm.toList == [97,110,100])=false:=ak (j:=8) HO.out rfl (by decide)
    have hm10:(nm.toList == [110,117,108,108])=false:=ak (j:=10) HO.out rfl (by decide)
    have hm9:(nm.toList == [105,110])=false:=ak (j:=9) HO.out rfl (by decide)
    have hm11:(nm.toList == [115,105,122,101])=false:=ak (j:=11) HO.out rfl (by decide)
    have hm12:(nm.toList == [104,101,97,100])=false:=ak (j:=12) HO.out rfl (by decide)
    have hm13:(nm.toList == [99,111,97,108,101,115,99,101])=false:=ak (j:=13) HO.out rfl (by decide)
    have hm14:(nm.toList == [108,105,115,116])=true:=b9 HO.out rfl
    have HVE:Hid (opF 14 (A.map G)=eI TS):=by
     show _=_
     rw[←HTS.out]
     rfl
    have hVX:Below V.heap.size V (V.alloc (H #[D C 4,D C 0,F ⟨#[]⟩,E oa l oc] 30)):=(M _ _).alloc (K _) _
    have HVX:=aa hVX
    have HXX:=aa (ae V (H #[D C 4,D C 0,F ⟨#[]⟩,E oa l oc] 30))
    have HZX:Hid ((V.alloc (H #[D C 4,D C 0,F ⟨#[]⟩,E oa l oc] 30)).heap.size=V.heap.size+1):=by show _=_;simp
    have hV0:Below w0.heap.size w0 V:=HW.out.trans (HWV.out.mono HSZ.out)
    have HRI:=aa (jn (B:=B) 4 0 ⟨#[]⟩ oa l oc TS (V.alloc (H #[D C 4,D C 0,F ⟨#[]⟩,E oa l oc] 30)) (Nat.le_trans HBB.out (hV0.trans (hVX.mono hV0.size)).size) (HTB.out.below ((hV0.trans (hVX.mono hV0.size)).mono HBB.out)) (by decide) (by unfold InT;exact⟨by omega,gB fun t ht=>(HCS.out t ht).cw.inT⟩) (ap.lies _ _ _ (HLV.out.below hVX)))
    clear hVX hV0
    go_wp2_with fail
    refine HRI.out.mono ?_
    generalize V.alloc (H #[D C 4,D C 0,F ⟨#[]⟩,E oa l oc] 30)=VX at HVX HXX HZX ⊢
    rintro e u1 ⟨rfl,k1⟩
    have HK1:=aa (af HVX.out k1)
    have hXu:=(k1.block V.heap.size (by have:=HZX.out;omega)).trans HXX.out
    obtain⟨p0,p1,p2,p3⟩:=ai hXu
    simp at p0 p1 p2 p3
    have hVu:V.heap.size<u1.heap.size:=lt_block' hXu
    clear hXu k1 c5 z5
    have HQ:=aa (HR1.out u1 (HBV.out.trans (HK1.out.mono (by have:=HZV.out;omega))))
    obtain⟨⟨r0,r1,r2,r3⟩,hsq⟩:=bX HQ.out
    obtain⟨f0,f1,f2,f3⟩:=aq HQ.out
    by_cases hck:ckB 6 (.node 4 0 ⟨#[]⟩ TS)=true
    ·have hb:(chk 6 (.node 4 0 ⟨#[]⟩ TS)==0)=true:=by
      rw[beq_iff_eq,jh 6 _ (by unfold InT;exact⟨by omega,gB fun t ht=>(HCS.out t ht).cw.inT⟩)]
      exact(jg _ _).1 hck
     have HVE2:Hid (opF 14 (A.map G) = .node 4 0 ⟨#[]⟩ TS):=HVE.out.trans (if_pos hck)
     rw[hb]
     clear hb hck
     go_wp2_with fail
     obtain⟨Y,eY,⟨t0,t1,t2,t3⟩,hbb,hoth,hsz⟩:=ba (w:=w) HQ.out rfl (af HWV.out HK1.out) (by omega) (D C 4) (D C 0) (F ⟨#[]⟩) (E oa l oc)
     rw[eY]
     exact bodyPost_ret (v:=vC (4) (0) ⟨#[]⟩ oa l oc) (by simp[results,Tryz.results12,go_sem,t0,t1,t2,t3]) rfl ⟨⟨4,0,⟨#[]⟩,oa,l,oc,TS,rfl,HVE2.out,HLC.out,by decide,ap.kept (A':=fun i=>i<w0.heap.size∨w.heap.size≤i) (by omega) (fun j hj hjl=>⟨by rcases hj with h | h;exact .inl h;exact .inr (by omega),hoth j (by have h1:=HSZ.out;rcases hj with h | h<;>omega)⟩) _ _ _ (HLV.out.below HK1.out)⟩,hbb⟩
    ·have hb:(chk 6 (.node 4 0 ⟨#[]⟩ TS)==0)=false:=by
      rw[beq_eq_false_iff_ne,ne_eq,jh 6 _ (by unfold InT;exact⟨by omega,gB fun t ht=>(HCS.out t ht).cw.inT⟩)]
      exact fun h=>hck ((jg _ _).2 h)
     have HVE2:Hid (opF 14 (A.map G)=aw):=HVE.out.trans (if_neg hck)
     rw[hb]
     clear hb hck
     go_wp2_with fail
     obtain⟨Y,eY,⟨t0,t1,t2,t3⟩,hbb,hoth,hsz⟩:=ba (w:=w) HQ.out rfl (af HWV.out HK1.out) (by omega) (D C 0) (D C 0) (F ⟨#[]⟩) (E none 0 0)
     rw[eY]
     exact bodyPost_ret (v:=vC (0) (0) ⟨#[]⟩ none 0 0) (by simp[results,Tryz.results12,go_sem,t0,t1,t2,t3]) rfl ⟨(by rw[HVE2.out];exact aL.null),hbb⟩
   ·have hm0:(nm.toList == [43])=false:=ak (j:=0) HO.out rfl (by decide)
    have hm1:(nm.toList == [45])=false:=ak (j:=1) HO.out rfl (by decide)
    have hm2:(nm.toList == [42])=false:=ak (j:=2) HO.out rfl (by decide)
    have hm3:(nm.toList == [61])=false:=ak (j:=3) HO.out rfl (by decide)
    have hm4:(nm.toList == [60])=false:=ak (j:=4) HO.out rfl (by decide)
    have hm5:(nm.toList == [60,61])=false:=ak (j:=5) HO.out rfl (by decide)
    have hm6:(nm.toList == [110,111,116])=false:=ak (j:=6) HO.out rfl (by decide)
    have hm7:(nm.toList == [111,114])=false:=ak (j:=7) HO.out rfl (by decide)
    have hm8:(nm.toList == [97,110,100])=false:=ak (j:=8) HO.out rfl (by decide)
    have hm10:(nm.toList == [110,117,108,108])=false:=ak (j:=10) HO.out rfl (by decide)
    have hm9:(nm.toList == [105,110])=false:=ak (j:=9) HO.out rfl (by decide)
    have hm11:(nm.toList == [115,105,122,101])=false:=ak (j:=11) HO.out rfl (by decide)
    have hm12:(nm.toList == [104,101,97,100])=false:=ak (j:=12) HO.out rfl (by decide)
    have hm13:(nm.toList == [99,111,97,108,101,115,99,101])=true:=b9 HO.out rfl
    have HVE:Hid (opF 13 (A.map G)=ej (TS.drop 0)):=by
     show _=_
     rw[←HTS.out]
     rfl
    have HLN:=aa HLV.out.len.1
    go_wp2_with fail
    clear c5 z5
    go_loopg [290] l (fun q s290 wr=>∃(i:Nat),i≤l∧l-i≤q∧s290=D C i∧Below V.heap.size V wr∧opF 13 (A.map G)=ej (TS.drop i))
    case atStart=>exact⟨0,Nat.zero_le _,by omega,rfl,M _ _,HVE.out⟩
    case round=>
     clear HVE
     obtain⟨j,hj,hgj,rfl,hbq,hfe⟩:=hrel
     have HFE:=aa hfe
     have hkV:Below w.heap.size w wr:=af HWV.out hbq
     have hbW:Below (w.heap.size+3) W wr:=HBV.out.trans (hbq.mono (by omega))
     clear hfe
     by_cases hlt:j<l
     ·obtain⟨b,off,k0,n0,s0,L0,a0,l0,c0,ha,hAb,hbl,hd,x0,x1,x2,x3,hlc0,hs0,hL0⟩:=HLV.out.at (i:=j) hlt
      subst ha
      have hq:∀o,wr.cell? ⟨b,o,none⟩=V.cell? ⟨b,o,none⟩:=fun o=>hbq.cell (p:=⟨b,o,none⟩) hbl
      have y0:=(hq _).trans x0
      have y1:=(hq _).trans x1
      have y2:=(hq _).trans x2
      have y3:=(hq _).trans x3
      have hjl:(j:Int)<l:=by omega
      have hbl2:b<wr.heap.size:=Nat.lt_of_lt_of_le hbl hbq.size
      have hr:=HFE.out
      rw[hd] at hr
      unfold ej at hr
      have hkx:Below wr.heap.size wr (wr.alloc (H #[D C k0,D C n0,F s0,E a0 l0 c0] 30)):=(M _ _).alloc (K _) _
      have HCC:=aa (show l0≤c0∧s0.size≤9223372036854775807 from⟨hlc0,hs0⟩)
      have HL0:=aa ((hL0.below hbq).below hkx)
      clear x0 x1 x2 x3 hq hd hlc0 hs0 hL0 HFE
      by_cases hk:k0=0
      ·have hk':(k0 != 0)=false:=by simp[hk]
       rw[if_pos hk] at hr
       have HRT:=aa hr
       have HKX:=aa (af hbq hkx)
       clear hr hk hkx hbq hkV hbW
       go_wp2_with fail
       go_roundg (l-(j+1))
       case measure=>omega
       case rel=>exact⟨j+1,by omega,by omega,by go_num,HKX.out,HRT.out⟩
      ·have hk':(k0 != 0)=true:=by simp[hk]
       rw[if_neg hk] at hr
       have HVE2:=aa hr
       have HWX:=aa (af hkV hkx)
       have HRX:=aa (HR1.out _ (hbW.trans (hkx.mono (by have:=hbq.size;omega))))
       have HXB:=aa (ae wr (H #[D C k0,D C n0,F s0,E a0 l0 c0] 30))
       have hxz:wr.heap.size<(wr.alloc (H #[D C k0,D C n0,F s0,E a0 l0 c0] 30)).heap.size:=by simp
       clear hr hk hkx hbq hkV hbW
       go_upto_region 73 with fail
       generalize wr.alloc (H #[D C k0,D C n0,F s0,E a0 l0 c0] 30)=WX at HWX HRX HXB HL0 hxz ⊢
       obtain⟨g0,g1,g2,g3⟩:=ai HXB.out
       simp at g0 g1 g2 g3
       clear y0 y1 y2 y3
       have HQ:=aa (HRX.out)
       obtain⟨⟨r0,r1,r2,r3⟩,hsq⟩:=bX HQ.out
       obtain⟨f0,f1,f2,f3⟩:=aq HQ.out
       go_wp2_with fail
       obtain⟨Y,eY,⟨t0,t1,t2,t3⟩,hbb,hoth,hsz⟩:=ba (w:=w) HQ.out rfl (HWX.out) (by omega) (D C k0) (D C n0) (F s0) (E a0 l0 c0)
       rw[eY]
       exact bodyPost_ret (v:=vC (k0) (n0) s0 a0 l0 c0) (by simp[results,Tryz.results12,go_sem,t0,t1,t2,t3]) rfl ⟨⟨k0,n0,s0,a0,l0,c0,L0,rfl,HVE2.out,HCC.out.1,HCC.out.2,ap.kept (A':=fun i=>i<w0.heap.size∨w.heap.size≤i) (by omega) (fun j hj hjl=>⟨by rcases hj with h | h;exact .inl h;exact .inr (by omega),hoth j (by have h1:=HSZ.out;rcases hj with h | h<;>omega)⟩) _ _ _ HL0.out⟩,hbb⟩
     ·have hjl:¬(j:Int)<l:=by omega
      have HVE2:Hid (opF 13 (A.map G)=aw):=by
       have hr:=HFE.out
       rw[J (by have:=HLN.out;omega)] at hr
       exact hr
      have HWX:=aa hkV
      have HRX:=aa (HR1.out _ hbW)
      clear hkV hbW hbq
      have HQ:=aa (HRX.out)
      obtain⟨⟨r0,r1,r2,r3⟩,hsq⟩:=bX HQ.out
      obtain⟨f0,f1,f2,f3⟩:=aq HQ.out
      go_wp2_with fail
      obtain⟨Y,eY,⟨t0,t1,t2,t3⟩,hbb,hoth,hsz⟩:=ba (w:=w) HQ.out rfl (HWX.out) (by omega) (D C 0) (D C 0) (F ⟨#[]⟩) (E none 0 0)
      rw[eY]
      exact bodyPost_ret (v:=vC (0) (0) ⟨#[]⟩ none 0 0) (by simp[results,Tryz.results12,go_sem,t0,t1,t2,t3]) rfl ⟨(by rw[HVE2.out];exact aL.null),hbb⟩
   ·have hm0:(nm.toList == [43])=false:=ak (j:=0) HO.out rfl (by decide)
    have hm1:(nm.toList == [45])=false:=ak (j:=1) HO.out rfl (by decide)
    have hm2:(nm.toList == [42])=false:=ak (j:=2) HO.out rfl (by decide)
    have hm3:(nm.toList == [61])=true:=b9 HO.out rfl
    have hl2:l=2:=by
     have h:=HTK.out
     have h2:=HLEN.out
     rw[show an 3=2 from by decide] at h
     omega
    obtain⟨b,off,k0,n0,s0,L0,a0,l0,c0,ha,hAb,hbl,hd0,x0,x1,x2,x3,hlc0,hs0,hL0⟩:=HLV.out.at (i:=0) (by omega)
    obtain⟨b',off',k1,n1,s1,L1,a1,l1,c1,ha',-,-,hd1,y0,y1,y2,y3,hlc1,hs1,hL1⟩:=HLV.out.at (i:=1) (by omega)
    rw[ha] at ha'
    injection ha' with ha'
    injection ha' with e1 e2
    subst e1 e2
    rw[Nat.one_mul] at y0 y1 y2 y3
    subst ha
    rw[N,O] at x0 x1 x2 x3
    have hb2:b≠w.heap.size+2:=by have h1:=HSZ.out;rcases hAb with h | h<;>omega
    have HTL:Hid (TS = [.node k0 n0 s0 L0,.node k1 n1 s1 L1]):=by
     have e0:TS = .node k0 n0 s0 L0::TS.drop 1:=by simpa using hd0
     have e3:TS.drop 2 = []:=J (by have:=HLV.out.len.1;omega)
     rw[hd1,e3] at e0
     exact e0
    have HC0:Hid (Ck 6 (.node k0 n0 s0 L0)):=HCS.out _ (by rw[HTL.out];exact I ..)
    have HC1:Hid (Ck 6 (.node k1 n1 s1 L1)):=HCS.out _ (by rw[HTL.out];exact List.mem_cons_of_mem _ (I ..))
    have HL0:=aa hL0
    have HL1:=aa hL1
    have HC:=aa (show(l0≤c0∧s0.size≤9223372036854775807)∧(l1≤c1∧s1.size≤9223372036854775807) from⟨⟨hlc0,hs0⟩,⟨hlc1,hs1⟩⟩)
    have RC8:∀u,(∀o,u.cell? ⟨b,o,none⟩=V.cell? ⟨b,o,none⟩)→R8 u b off k0 n0 s0 a0 l0 c0 k1 n1 s1 a1 l1 c1:=fun u q=>⟨⟨(q _).trans x0,(q _).trans x1,(q _).trans x2,(q _).trans x3⟩,⟨(q _).trans y0,(q _).trans y1,(q _).trans y2,(q _).trans y3⟩⟩
    have HRC:=aa RC8
    clear x0 x1 x2 x3 y0 y1 y2 y3 RC8 hd0 hd1 hL0 hL1 hlc0 hlc1 hs0 hs1
    obtain⟨q1,hq1⟩:∃z,z=(cI (aU (.node k0 n0 s0 L0) (.node k1 n1 s1 L1))).1:=⟨_,rfl⟩
    obtain⟨q2,hq2⟩:∃z,z=(cI (aU (.node k0 n0 s0 L0) (.node k1 n1 s1 L1))).2:=⟨_,rfl⟩
    have HVE:Hid (opF 3 (A.map G) = .node q1 q2 ⟨#[]⟩ []):=by
     show _=_
     rw[←HTS.out,HTL.out,hq1,hq2]
     rfl
    have HFN:Hid (∀u,Below V.heap.size V u→Calls Tryz.prog 33 #[vC k0 n0 s0 a0 l0 c0,vC k1 n1 s1 a1 l1 c1] u fun e w'=>e=Q (vC q1 q2 ⟨#[]⟩ none 0 0)∧Below u.heap.size u w'):=fun u ku=>by
     have e1:=HC0.out.cw.parts
     have e2:=HC1.out.cw.parts
     have:=nF 1099511627776 k0 n0 s0 a0 l0 c0 L0 k1 n1 s1 a1 l1 c1 L1 u (by omega) (K _) (by omega) (ap.lies _ _ _ (HL0.out.below ku)) (ap.lies _ _ _ (HL1.out.below ku))
     rw[fY,←hq1,←hq2] at this
     exact this
    clear hq1 hq2
    subst hl2
    go_upto_region 31 with fail
    clear c5 z5
    obtain⟨⟨x0,x1,x2,x3⟩,⟨y0,y1,y2,y3⟩⟩:=HRC.out V fun _=>rfl
    have D0:Below V.heap.size V V.drew:=(M _ _).drew
    have hbV:b<V.heap.size:=hbl
    have HS:Hid (∀u,Below V.heap.size V u→((u.cell? ⟨b,off,none⟩=some (D C k0)∧u.cell? ⟨b,off+1,none⟩=some (D C n0)∧u.cell? ⟨b,off+2,none⟩=some (F s0)∧u.cell? ⟨b,off+3,none⟩=some (E a0 l0 c0))∧(u.cell? ⟨b,off+4,none⟩=some (D C k1)∧u.cell? ⟨b,off+5,none⟩=some (D C n1)∧u.cell? ⟨b,off+6,none⟩=some (F s1)∧u.cell? ⟨b,off+7,none⟩=some (E a1 l1 c1)))):=fun u ku=>HRC.out u fun o=>ku.cell (p:=⟨b,o,none⟩) hbl
    have HRB:Hid (∀u,Below V.heap.size V u→u.heap[w.heap.size+2]? = some (H #[D C 0,D C 0,F ⟨#[]⟩,E none 0 0] 30 (0,0))):=fun u ku=>HR1.out u (HBV.out.trans (ku.mono (by have:=HZV.out;omega)))
    have HST:Hid (∀u,Below V.heap.size V u→∀v0 v1 v2 v3:Value,((((((u.setCell ⟨w.heap.size+2,0,none⟩ v0).setCell ⟨w.heap.size+2,1,none⟩ v1).setCell ⟨w.heap.size+2,2,none⟩ v2).setCell ⟨w.heap.size+2,3,none⟩ v3).cell? ⟨b,off,none⟩=some (D C k0)∧((((u.setCell ⟨w.heap.size+2,0,none⟩ v0).setCell ⟨w.heap.size+2,1,none⟩ v1).setCell ⟨w.heap.size+2,2,none⟩ v2).setCell ⟨w.heap.size+2,3,none⟩ v3).cell? ⟨b,off+1,none⟩=some (D C n0)∧((((u.setCell ⟨w.heap.size+2,0,none⟩ v0).setCell ⟨w.heap.size+2,1,none⟩ v1).setCell ⟨w.heap.size+2,2,none⟩ v2).setCell ⟨w.heap.size+2,3,none⟩ v3).cell? ⟨b,off+2,none⟩=some (F s0)∧((((u.setCell ⟨w.heap.size+2,0,none⟩ v0).setCell ⟨w.heap.size+2,1,none⟩ v1).setCell ⟨w.heap.size+2,2,none⟩ v2).setCell ⟨w.heap.size+2,3,none⟩ v3).cell? ⟨b,off+3,none⟩=some (E a0 l0 c0))∧(((((u.setCell ⟨w.heap.size+2,0,none⟩ v0).setCell ⟨w.heap.size+2,1,none⟩ v1).setCell ⟨w.heap.size+2,2,none⟩ v2).setCell ⟨w.heap.size+2,3,none⟩ v3).cell? ⟨b,off+4,none⟩=some (D C k1)∧((((u.setCell ⟨w.heap.size+2,0,none⟩ v0).setCell ⟨w.heap.size+2,1,none⟩ v1).setCell ⟨w.heap.size+2,2,none⟩ v2).setCell ⟨w.heap.size+2,3,none⟩ v3).cell? ⟨b,off+5,none⟩=some (D C n1)∧((((u.setCell ⟨w.heap.size+2,0,none⟩ v0).setCell ⟨w.heap.size+2,1,none⟩ v1).setCell ⟨w.heap.size+2,2,none⟩ v2).setCell ⟨w.heap.size+2,3,none⟩ v3).cell? ⟨b,off+6,none⟩=some (F s1)∧((((u.setCell ⟨w.heap.size+2,0,none⟩ v0).setCell ⟨w.heap.size+2,1,none⟩ v1).setCell ⟨w.heap.size+2,2,none⟩ v2).setCell ⟨w.heap.size+2,3,none⟩ v3).cell? ⟨b,off+7,none⟩=some (E a1 l1 c1)))):=fun u ku v0 v1 v2 v3=>HRC.out _ fun o=>(bE hb2 v0 v1 v2 v3 o).trans (ku.cell (p:=⟨b,o,none⟩) hbl)
    go_region_held3 (fun W'=>((W'.cell? ⟨b,off,none⟩=some (D C k0)∧W'.cell? ⟨b,off+1,none⟩=some (D C n0)∧W'.cell? ⟨b,off+2,none⟩=some (F s0)∧W'.cell? ⟨b,off+3,none⟩=some (E a0 l0 c0))∧(W'.cell? ⟨b,off+4,none⟩=some (D C k1)∧W'.cell? ⟨b,off+5,none⟩=some (D C n1)∧W'.cell? ⟨b,off+6,none⟩=some (F s1)∧W'.cell? ⟨b,off+7,none⟩=some (E a1 l1 c1))))
     (first
       | with_reducible exact HS.out _ k2
       | with_reducible exact HS.out _ k1
       | with_reducible exact HS.out _ D0
       | with_reducible exact HST.out _ k2 _ _ _ _
       | with_reducible exact HST.out _ k1 _ _ _ _
       | exact⟨⟨x0,x1,x2,x3⟩,⟨y0,y1,y2,y3⟩⟩
       | go_keep)
     (first
       | (go_at_call 33;go_fit (HFN.out V.drew D0);rintro e u1 ⟨rfl,h1⟩;have k1:Below V.heap.size V u1:=D0.trans h1;have hb1:=HRB.out u1 k1;have r0:=ac hb1 0;have r1:=ac hb1 1;have r2:=ac hb1 2;have r3:=ac hb1 3;have f0:=aj hb1 0;have f1:=aj hb1 1;have f2:=aj hb1 2;have f3:=aj hb1 3;simp at r0 r1 r2 r3;have hsq:w.heap.size+2<u1.heap.size:=lt_block' hb1))
    all_goals
     go_wp2_with fail
     obtain⟨Y,eY,⟨t0,t1,t2,t3⟩,hbb,hoth,hsz⟩:=ba (w:=w) (HRB.out u1 k1) rfl (af HWV.out k1) (by omega) (D C q1) (D C q2) (F ⟨#[]⟩) (E none 0 0)
     rw[eY]
     exact bodyPost_ret (v:=vC (q1) (q2) ⟨#[]⟩ none 0 0) (by simp[results,Tryz.results12,go_sem,t0,t1,t2,t3]) rfl ⟨(by rw[HVE.out];exact aL.flat _ _ _ (by decide)),hbb⟩
   ·have hm0:(nm.toList == [43])=false:=ak (j:=0) HO.out rfl (by decide)
    have hm1:(nm.toList == [45])=false:=ak (j:=1) HO.out rfl (by decide)
    have hm2:(nm.toList == [42])=false:=ak (j:=2) HO.out rfl (by decide)
    have hm3:(nm.toList == [61])=false:=ak (j:=3) HO.out rfl (by decide)
    have hm4:(nm.toList == [60])=true:=b9 HO.out rfl
    have hl2:l=2:=by
     have h:=HTK.out
     have h2:=HLEN.out
     rw[show an 4=2 from by decide] at h
     omega
    obtain⟨b,off,k0,n0,s0,L0,a0,l0,c0,ha,hAb,hbl,hd0,x0,x1,x2,x3,hlc0,hs0,hL0⟩:=HLV.out.at (i:=0) (by omega)
    obtain⟨b',off',k1,n1,s1,L1,a1,l1,c1,ha',-,-,hd1,y0,y1,y2,y3,hlc1,hs1,hL1⟩:=HLV.out.at (i:=1) (by omega)
    rw[ha] at ha'
    injection ha' with ha'
    injection ha' with e1 e2
    subst e1 e2
    rw[Nat.one_mul] at y0 y1 y2 y3
    subst ha
    rw[N,O] at x0 x1 x2 x3
    have hb2:b≠w.heap.size+2:=by have h1:=HSZ.out;rcases hAb with h | h<;>omega
    have HTL:Hid (TS = [.node k0 n0 s0 L0,.node k1 n1 s1 L1]):=by
     have e0:TS = .node k0 n0 s0 L0::TS.drop 1:=by simpa using hd0
     have e3:TS.drop 2 = []:=J (by have:=HLV.out.len.1;omega)
     rw[hd1,e3] at e0
     exact e0
    have HC0:Hid (Ck 6 (.node k0 n0 s0 L0)):=HCS.out _ (by rw[HTL.out];exact I ..)
    have HC1:Hid (Ck 6 (.node k1 n1 s1 L1)):=HCS.out _ (by rw[HTL.out];exact List.mem_cons_of_mem _ (I ..))
    have HL0:=aa hL0
    have HL1:=aa hL1
    have HC:=aa (show(l0≤c0∧s0.size≤9223372036854775807)∧(l1≤c1∧s1.size≤9223372036854775807) from⟨⟨hlc0,hs0⟩,⟨hlc1,hs1⟩⟩)
    have RC8:∀u,(∀o,u.cell? ⟨b,o,none⟩=V.cell? ⟨b,o,none⟩)→R8 u b off k0 n0 s0 a0 l0 c0 k1 n1 s1 a1 l1 c1:=fun u q=>⟨⟨(q _).trans x0,(q _).trans x1,(q _).trans x2,(q _).trans x3⟩,⟨(q _).trans y0,(q _).trans y1,(q _).trans y2,(q _).trans y3⟩⟩
    have HRC:=aa RC8
    clear x0 x1 x2 x3 y0 y1 y2 y3 RC8 hd0 hd1 hL0 hL1 hlc0 hlc1 hs0 hs1
    obtain⟨q1,hq1⟩:∃z,z=(bz (.node k0 n0 s0 L0) (.node k1 n1 s1 L1)).1:=⟨_,rfl⟩
    obtain⟨q2,hq2⟩:∃z,z=(bz (.node k0 n0 s0 L0) (.node k1 n1 s1 L1)).2:=⟨_,rfl⟩
    have HVE:Hid (opF 4 (A.map G) = .node q1 q2 ⟨#[]⟩ []):=by
     show _=_
     rw[←HTS.out,HTL.out,hq1,hq2]
     rfl
    have HFN:Hid (∀u,Below V.heap.size V u→Calls Tryz.prog 34 #[vC k0 n0 s0 a0 l0 c0,vC k1 n1 s1 a1 l1 c1] u fun e w'=>e=Q (vC q1 q2 ⟨#[]⟩ none 0 0)∧Below u.heap.size u w'):=fun u ku=>by
     have e1:=HC0.out.cw.parts
     have e2:=HC1.out.cw.parts
     rw[hq1,hq2]
     exact kh k0 n0 s0 a0 l0 c0 k1 n1 s1 a1 l1 c1 L0 L1 u (ap.lies _ _ _ (HL0.out.below ku)) (ap.lies _ _ _ (HL1.out.below ku)) (by omega) (by omega)
    clear hq1 hq2
    subst hl2
    go_upto_region 33 with fail
    clear c5 z5
    obtain⟨⟨x0,x1,x2,x3⟩,⟨y0,y1,y2,y3⟩⟩:=HRC.out V fun _=>rfl
    have D0:Below V.heap.size V V.drew:=(M _ _).drew
    have hbV:b<V.heap.size:=hbl
    have HS:Hid (∀u,Below V.heap.size V u→((u.cell? ⟨b,off,none⟩=some (D C k0)∧u.cell? ⟨b,off+1,none⟩=some (D C n0)∧u.cell? ⟨b,off+2,none⟩=some (F s0)∧u.cell? ⟨b,off+3,none⟩=some (E a0 l0 c0))∧(u.cell? ⟨b,off+4,none⟩=some (D C k1)∧u.cell? ⟨b,off+5,none⟩=some (D C n1)∧u.cell? ⟨b,off+6,none⟩=some (F s1)∧u.cell? ⟨b,off+7,none⟩=some (E a1 l1 c1)))):=fun u ku=>HRC.out u fun o=>ku.cell (p:=⟨b,o,none⟩) hbl
    have HRB:Hid (∀u,Below V.heap.size V u→u.heap[w.heap.size+2]? = some (H #[D C 0,D C 0,F ⟨#[]⟩,E none 0 0] 30 (0,0))):=fun u ku=>HR1.out u (HBV.out.trans (ku.mono (by have:=HZV.out;omega)))
    have HST:Hid (∀u,Below V.heap.size V u→∀v0 v1 v2 v3:Value,((((((u.setCell ⟨w.heap.size+2,0,none⟩ v0).setCell ⟨w.heap.size+2,1,none⟩ v1).setCell ⟨w.heap.size+2,2,none⟩ v2).setCell ⟨w.heap.size+2,3,none⟩ v3).cell? ⟨b,off,none⟩=some (D C k0)∧((((u.setCell ⟨w.heap.size+2,0,none⟩ v0).setCell ⟨w.heap.size+2,1,none⟩ v1).setCell ⟨w.heap.size+2,2,none⟩ v2).setCell ⟨w.heap.size+2,3,none⟩ v3).cell? ⟨b,off+1,none⟩=some (D C n0)∧((((u.setCell ⟨w.heap.size+2,0,none⟩ v0).setCell ⟨w.heap.size+2,1,none⟩ v1).setCell ⟨w.heap.size+2,2,none⟩ v2).setCell ⟨w.heap.size+2,3,none⟩ v3).cell? ⟨b,off+2,none⟩=some (F s0)∧((((u.setCell ⟨w.heap.size+2,0,none⟩ v0).setCell ⟨w.heap.size+2,1,none⟩ v1).setCell ⟨w.heap.size+2,2,none⟩ v2).setCell ⟨w.heap.size+2,3,none⟩ v3).cell? ⟨b,off+3,none⟩=some (E a0 l0 c0))∧(((((u.setCell ⟨w.heap.size+2,0,none⟩ v0).setCell ⟨w.heap.size+2,1,none⟩ v1).setCell ⟨w.heap.size+2,2,none⟩ v2).setCell ⟨w.heap.size+2,3,none⟩ v3).cell? ⟨b,off+4,none⟩=some (D C k1)∧((((u.setCell ⟨w.heap.size+2,0,none⟩ v0).setCell ⟨w.heap.size+2,1,none⟩ v1).setCell ⟨w.heap.size+2,2,none⟩ v2).setCell ⟨w.heap.size+2,3,none⟩ v3).cell? ⟨b,off+5,none⟩=some (D C n1)∧((((u.setCell ⟨w.heap.size+2,0,none⟩ v0).setCell ⟨w.heap.size+2,1,none⟩ v1).setCell ⟨w.heap.size+2,2,none⟩ v2).setCell ⟨w.heap.size+2,3,none⟩ v3).cell? ⟨b,off+6,none⟩=some (F s1)∧((((u.setCell ⟨w.heap.size+2,0,none⟩ v0).setCell ⟨w.heap.size+2,1,none⟩ v1).setCell ⟨w.heap.size+2,2,none⟩ v2).setCell ⟨w.heap.size+2,3,none⟩ v3).cell? ⟨b,off+7,none⟩=some (E a1 l1 c1)))):=fun u ku v0 v1 v2 v3=>HRC.out _ fun o=>(bE hb2 v0 v1 v2 v3 o).trans (ku.cell (p:=⟨b,o,none⟩) hbl)
    go_region_held3 (fun W'=>((W'.cell? ⟨b,off,none⟩=some (D C k0)∧W'.cell? ⟨b,off+1,none⟩=some (D C n0)∧W'.cell? ⟨b,off+2,none⟩=some (F s0)∧W'.cell? ⟨b,off+3,none⟩=some (E a0 l0 c0))∧(W'.cell? ⟨b,off+4,none⟩=some (D C k1)∧W'.cell? ⟨b,off+5,none⟩=some (D C n1)∧W'.cell? ⟨b,off+6,none⟩=some (F s1)∧W'.cell? ⟨b,off+7,none⟩=some (E a1 l1 c1))))
     (first
       | with_reducible exact HS.out _ k2
       | with_reducible exact HS.out _ k1
       | with_reducible exact HS.out _ D0
       | with_reducible exact HST.out _ k2 _ _ _ _
       | with_reducible exact HST.out _ k1 _ _ _ _
       | exact⟨⟨x0,x1,x2,x3⟩,⟨y0,y1,y2,y3⟩⟩
       | go_keep)
     (first
       | (go_at_call 34;go_fit (HFN.out V.drew D0);rintro e u1 ⟨rfl,h1⟩;have k1:Below V.heap.size V u1:=D0.trans h1;have hb1:=HRB.out u1 k1;have r0:=ac hb1 0;have r1:=ac hb1 1;have r2:=ac hb1 2;have r3:=ac hb1 3;have f0:=aj hb1 0;have f1:=aj hb1 1;have f2:=aj hb1 2;have f3:=aj hb1 3;simp at r0 r1 r2 r3;have hsq:w.heap.size+2<u1.heap.size:=lt_block' hb1))
    all_goals
     go_wp2_with fail
     obtain⟨Y,eY,⟨t0,t1,t2,t3⟩,hbb,hoth,hsz⟩:=ba (w:=w) (HRB.out u1 k1) rfl (af HWV.out k1) (by omega) (D C q1) (D C q2) (F ⟨#[]⟩) (E none 0 0)
     rw[eY]
     exact bodyPost_ret (v:=vC (q1) (q2) ⟨#[]⟩ none 0 0) (by simp[results,Tryz.results12,go_sem,t0,t1,t2,t3]) rfl ⟨(by rw[HVE.out];exact aL.flat _ _ _ (by decide)),hbb⟩
   ·have hm0:(nm.toList == [43])=false:=ak (j:=0) HO.out rfl (by decide)
    have hm1:(nm.toList == [45])=false:=ak (j:=1) HO.out rfl (by decide)
    have hm2:(nm.toList == [42])=false:=ak (j:=2) HO.out rfl (by decide)
    have hm3:(nm.toList == [61])=false:=ak (j:=3) HO.out rfl (by decide)
    have hm4:(nm.toList == [60])=false:=ak (j:=4) HO.out rfl (by decide)
    have hm5:(nm.toList == [60,61])=false:=ak (j:=5) HO.out rfl (by decide)
    have hm6:(nm.toList == [110,111,116])=false:=ak (j:=6) HO.out rfl (by decide)
    have hm7:(nm.toList == [111,114])=false:=ak (j:=7) HO.out rfl (by decide)
    have hm8:(nm.toList == [97,110,100])=false:=ak (j:=8) HO.out rfl (by decide)
    have hm10:(nm.toList == [110,117,108,108])=false:=ak (j:=10) HO.out rfl (by decide)
    have hm9:(nm.toList == [105,110])=false:=ak (j:=9) HO.out rfl (by decide)
    have hm11:(nm.toList == [115,105,122,101])=true:=b9 HO.out rfl
    have hl2:l=1:=by
     have h:=HTK.out
     have h2:=HLEN.out
     rw[show an 11=1 from by decide] at h
     omega
    obtain⟨b,off,k0,n0,s0,L0,a0,l0,c0,ha,hAb,hbl,hd0,x0,x1,x2,x3,hlc0,hs0,hL0⟩:=HLV.out.at (i:=0) (by omega)
    subst ha
    rw[N,O] at x0 x1 x2 x3
    have hb2:b≠w.heap.size+2:=by have h1:=HSZ.out;rcases hAb with h | h<;>omega
    have HTL:Hid (TS = [.node k0 n0 s0 L0]):=by
     have e0:TS = .node k0 n0 s0 L0::TS.drop 1:=by simpa using hd0
     have e3:TS.drop 1 = []:=J (by have:=HLV.out.len.1;omega)
     rw[e3] at e0
     exact e0
    have HC0:Hid (Ck 6 (.node k0 n0 s0 L0)):=HCS.out _ (by rw[HTL.out];exact I ..)
    have HL0:=aa hL0
    have HC:=aa (show l0≤c0∧s0.size≤9223372036854775807 from⟨hlc0,hs0⟩)
    clear hd0 hL0 hlc0 hs0
    have HVE:Hid (opF 11 (A.map G)=if k0=3 then eL (Lib.runeCount s0) else if k0=4 then eL L0.length else aw):=by
     show _=_
     rw[←HTS.out,HTL.out]
     rfl
    subst hl2
    have hs4:s0.size≤4000:=HC0.out.cw.parts.1
    have HLN:=aa HL0.out.len.1
    by_cases hk3:k0=3
    ·have hk3':(k0==3)=true:=by simp[hk3]
     have HVE1:Hid (opF 11 (A.map G)=eL (Lib.runeCount s0)):=HVE.out.trans (if_pos hk3)
     have HVI:Hid (Below V.heap.size V (V.alloc (.stringIter s0 0))):=(M _ _).alloc (K _) _
     have HII:=aa (ae V (.stringIter s0 0))
     clear hk3 HVE
     go_wp2_with fail
     clear x0 x1 x2 x3 c5
     go_loopg [20] s0.size (fun q s20 wr=>∃(n pos fuel:Nat),s20=D C n∧wr.heap[V.heap.size]? = some (.stringIter s0 pos)∧Below V.heap.size V wr∧s0.size-pos≤q∧s0.size≤pos+fuel∧n+Lib.runeCountFrom s0 fuel pos=Lib.runeCount s0∧n≤pos)
     case atStart=>exact⟨0,0,s0.size,rfl,HII.out,HVI.out,by omega,by omega,by rw[Nat.zero_add];rfl,K _⟩
     case round=>
      obtain⟨n,pos,fuel,rfl,hit,hbq,hg,hfu,hcn,hnp⟩:=hrel
      by_cases hlt:pos<s0.size
      ·have hnx:=fun ty=>Lib.run_next_any_at (P:=Tryz.prog) wr V.heap.size s0 pos ty hit hlt
       have hdp:=pE s0 pos
       obtain⟨f,rfl⟩:∃f,fuel=f+1:=⟨fuel-1,by omega⟩
       have HCN:Hid (n+1+Lib.runeCountFrom s0 f (pos+(Utf8.decode s0 pos).2)=Lib.runeCount s0):=by
        show _=_
        rw[←hcn]
        show _=n+(if pos<s0.size then 1+Lib.runeCountFrom s0 f (pos+(Utf8.decode s0 pos).2) else 0)
        rw[if_pos hlt]
        omega
       have HB2:=aa (Lib.below_iterAt hbq (K _) s0 (pos+(Utf8.decode s0 pos).2))
       have HI2:=aa (Lib.iterAt_heap wr V.heap.size s0 pos (pos+(Utf8.decode s0 pos).2) hit)
       clear hcn hbq hit
       go_wp2_with fail
       go_roundg (s0.size-(pos+(Utf8.decode s0 pos).2))
       case measure=>omega
       case rel=>exact⟨n+1,pos+(Utf8.decode s0 pos).2,f,by go_num,HI2.out,HB2.out,by omega,by omega,HCN.out,by omega⟩
      ·have hnx:=fun ty=>Lib.run_next_end_at (P:=Tryz.prog) wr V.heap.size s0 pos ty hit hlt
       have HVE2:Hid (opF 11 (A.map G) = .node 2 (n:Int) ⟨#[]⟩ []):=by
        refine HVE1.out.trans ?_
        rw[Lib.runeCountFrom_end s0 fuel pos hlt] at hcn
        rw[←hcn]
        rfl
       have HKQ:=aa hbq
       clear hcn hbq
       have HQ:=aa (HR1.out wr (HBV.out.trans (HKQ.out.mono (by omega))))
       obtain⟨⟨r0,r1,r2,r3⟩,hsq⟩:=bX HQ.out
       obtain⟨f0,f1,f2,f3⟩:=aq HQ.out
       go_wp2_with fail
       obtain⟨Y,eY,⟨t0,t1,t2,t3⟩,hbb,hoth,hsz⟩:=ba (w:=w) HQ.out rfl (af HWV.out HKQ.out) (by omega) (D C 2) (D C n) (F ⟨#[]⟩) (E none 0 0)
       rw[eY]
       exact bodyPost_ret (v:=vC (2) (n) ⟨#[]⟩ none 0 0) (by simp[results,Tryz.results12,go_sem,t0,t1,t2,t3]) rfl ⟨(by rw[HVE2.out];exact aL.flat _ _ _ (by decide)),hbb⟩
    ·have hk3':(k0==3)=false:=by simp[hk3]
     have HVE1:=aa (HVE.out.trans (if_neg hk3))
     have HQ:=aa (HR1.out V HBV.out)
     obtain⟨⟨r0,r1,r2,r3⟩,hsq⟩:=bX HQ.out
     obtain⟨f0,f1,f2,f3⟩:=aq HQ.out
     by_cases hk4:k0=4
     ·have hk4':(k0==4)=true:=by simp[hk4]
      have HVE2:Hid (opF 11 (A.map G) = .node 2 (l0:Int) ⟨#[]⟩ []):=by
       refine HVE1.out.trans ((if_pos hk4).trans ?_)
       rw[HLN.out]
       rfl
      clear hk3 hk4
      go_wp2_with fail
      obtain⟨Y,eY,⟨t0,t1,t2,t3⟩,hbb,hoth,hsz⟩:=ba (w:=w) HQ.out rfl (HWV.out) (by omega) (D C 2) (D C l0) (F ⟨#[]⟩) (E none 0 0)
      rw[eY]
      exact bodyPost_ret (v:=vC (2) (l0) ⟨#[]⟩ none 0 0) (by simp[results,Tryz.results12,go_sem,t0,t1,t2,t3]) rfl ⟨(by rw[HVE2.out];exact aL.flat _ _ _ (by decide)),hbb⟩
     ·have hk4':(k0==4)=false:=by simp[hk4]
      have HVE2:Hid (opF 11 (A.map G)=aw):=HVE1.out.trans (if_neg hk4)
      clear hk3 hk4
      go_wp2_with fail
      obtain⟨Y,eY,⟨t0,t1,t2,t3⟩,hbb,hoth,hsz⟩:=ba (w:=w) HQ.out rfl (HWV.out) (by omega) (D C 0) (D C 0) (F ⟨#[]⟩) (E none 0 0)
      rw[eY]
      exact bodyPost_ret (v:=vC (0) (0) ⟨#[]⟩ none 0 0) (by simp[results,Tryz.results12,go_sem,t0,t1,t2,t3]) rfl ⟨(by rw[HVE2.out];exact aL.null),hbb⟩
end Go.Proofs.YtijjpoohhgapoaaGreatDoor

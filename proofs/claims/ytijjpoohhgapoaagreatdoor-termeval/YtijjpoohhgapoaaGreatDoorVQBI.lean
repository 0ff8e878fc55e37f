import Derived.Test.YtijjpoohhgapoaaGreatDoorVQBF
namespace Go.Proofs.YtijjpoohhgapoaaGreatDoor
open Go.RowKit
set_option linter.unusedVariables false
set_option maxHeartbeats 4000000
set_option maxRecDepth 100000
open IntKind renaming i64 → C
open Value renaming int → D, slice → E, string → H, agg → M
open Obj renaming cells → F
open Ending renaming returned → I
open Nat renaming le_trans → J, le_refl → K
open RowKit.Below renaming refl → L
open List renaming mem_cons_self → N
theorem vV {B:Nat} (w0 w:World) (na:Option Addr) (nl nc:Nat) (ea:Option Addr) (el ec:Nat) (next:Int) (vk vn:Int) (vs:ByteArray) (va:Option Addr) (vl vc:Nat) (nm:ByteArray) (a:Option Addr) (l c:Nat) (Lv:List T) (A:List Tm) (m:Nat) (hw:Below w0.heap.size w0 w) (hB:B≤w0.heap.size) (hT:bD B w0) (ht:bd w0 4 vk vn vs va vl vc nm a l c Lv A) (ho:bN nm=some 5) (htk:an 5 = -1∨an 5=A.length) (h30:A.length≤30) (G:Tm→T) (hcw:∀y ∈ A,Ck 6 (G y)) (IH:∀(xk xvk xvn:Int) (xvs:ByteArray) (xva:Option Addr) (xvl xvc:Nat) (xnm:ByteArray) (xa:Option Addr) (xl xc:Nat) (Lv:List T) (A':List Tm),bd w0 xk xvk xvn xvs xva xvl xvc xnm xa xl xc Lv A'→.node xk (.node xvk xvn xvs Lv) xnm A' ∈ A→∀W,Below w0.heap.size w0 W→Calls Tryz.prog 12 #[M #[E na nl nc,E ea el ec,D C next],.map (some m),M #[D C xk,D C xvk,D C xvn,H xvs,E xva xvl xvc,H xnm,E xa xl xc]] W fun e w'=>aL (fun i=>i<w0.heap.size) W w' (G (.node xk (.node xvk xvn xvs Lv) xnm A')) e∧Below W.heap.size W w'):Calls Tryz.prog 12 #[M #[E na nl nc,E ea el ec,D C next],.map (some m),M #[D C 4,D C vk,D C vn,H vs,E va vl vc,H nm,E a l c]] w fun e w'=>aL (fun i=>i<w0.heap.size) w w' (opF 5 (A.map G)) e∧Below w.heap.size w w':=by
 have hlen:=ht.args.len.1
 have hl30:l≤30:=by rw[hlen];exact h30
 obtain⟨i0,hi0,hiz,his,hib⟩:=dw
 have HI0:=aa hi0
 have HIZ:=aa hiz
 have HIS:=aa his
 have HIB:=aa hib
 have HAR:=aa ht.args
 have HLEN:=aa hlen
 have HIH:=aa IH
 have HCW:=aa hcw
 have HTK:=aa htk
 have HTB:=aa hT
 have HBB:=aa hB
 have HO:=aa ho
 have hb3:Below w.heap.size w (((w.alloc (F #[E na nl nc,E ea el ec,D C next] 25)).alloc (F #[D C 4,D C vk,D C vn,H vs,E va vl vc,H nm,E a l c] 33)).alloc (F #[D C 0,D C 0,H ⟨#[]⟩,E none 0 0] 30)):=(((L _ _).alloc (K _) _).alloc (by simp) _).alloc (by simp;omega) _
 have hz:(((w.alloc (F #[E na nl nc,E ea el ec,D C next] 25)).alloc (F #[D C 4,D C vk,D C vn,H vs,E va vl vc,H nm,E a l c] 33)).alloc (F #[D C 0,D C 0,H ⟨#[]⟩,E none 0 0] 30)).heap.size=w.heap.size+3:=by simp
 have h0:(((w.alloc (F #[E na nl nc,E ea el ec,D C next] 25)).alloc (F #[D C 4,D C vk,D C vn,H vs,E va vl vc,H nm,E a l c] 33)).alloc (F #[D C 0,D C 0,H ⟨#[]⟩,E none 0 0] 30)).heap[w.heap.size]? = some (F #[E na nl nc,E ea el ec,D C next] 25 (0,0)):=(aK w (F #[E na nl nc,E ea el ec,D C next] 25) (F #[D C 4,D C vk,D C vn,H vs,E va vl vc,H nm,E a l c] 33) (F #[D C 0,D C 0,H ⟨#[]⟩,E none 0 0] 30)).1
 have h1:(((w.alloc (F #[E na nl nc,E ea el ec,D C next] 25)).alloc (F #[D C 4,D C vk,D C vn,H vs,E va vl vc,H nm,E a l c] 33)).alloc (F #[D C 0,D C 0,H ⟨#[]⟩,E none 0 0] 30)).heap[w.heap.size+1]? = some (F #[D C 4,D C vk,D C vn,H vs,E va vl vc,H nm,E a l c] 33 (0,0)):=(aK w (F #[E na nl nc,E ea el ec,D C next] 25) (F #[D C 4,D C vk,D C vn,H vs,E va vl vc,H nm,E a l c] 33) (F #[D C 0,D C 0,H ⟨#[]⟩,E none 0 0] 30)).2.1
 have h2:(((w.alloc (F #[E na nl nc,E ea el ec,D C next] 25)).alloc (F #[D C 4,D C vk,D C vn,H vs,E va vl vc,H nm,E a l c] 33)).alloc (F #[D C 0,D C 0,H ⟨#[]⟩,E none 0 0] 30)).heap[w.heap.size+2]? = some (F #[D C 0,D C 0,H ⟨#[]⟩,E none 0 0] 30 (0,0)):=(aK w (F #[E na nl nc,E ea el ec,D C next] 25) (F #[D C 4,D C vk,D C vn,H vs,E va vl vc,H nm,E a l c] 33) (F #[D C 0,D C 0,H ⟨#[]⟩,E none 0 0] 30)).2.2
 have HB:=aa hb3
 have HZ:=aa hz
 have H0:=aa h0
 have H1:=aa h1
 have H2:=aa h2
 clear hb3 hz h0 h1 h2
 have HW:=aa hw
 have HSZ:=aa hw.size
 clear ht hT hi0 hiz his hib hw hlen IH hcw htk hB h30 ho
 go_enter Tryz.func12,Tryz.ntmps12
 go_upto_region 1 with fail
 generalize (((w.alloc (F #[E na nl nc,E ea el ec,D C next] 25)).alloc (F #[D C 4,D C vk,D C vn,H vs,E va vl vc,H nm,E a l c] 33)).alloc (F #[D C 0,D C 0,H ⟨#[]⟩,E none 0 0] 30))=W at HB HZ H0 H1 H2 ⊢
 have HG1:Hid (∀u,Below (w.heap.size+3) W u→u.heap[w.heap.size]? = some (F #[E na nl nc,E ea el ec,D C next] 25 (0,0))):=fun u k=>(k.block w.heap.size (by omega)).trans H0.out
 have HT1:Hid (∀u,Below (w.heap.size+3) W u→u.heap[w.heap.size+1]? = some (F #[D C 4,D C vk,D C vn,H vs,E va vl vc,H nm,E a l c] 33 (0,0))):=fun u k=>(k.block (w.heap.size+1) (by omega)).trans H1.out
 have HR1:Hid (∀u,Below (w.heap.size+3) W u→u.heap[w.heap.size+2]? = some (F #[D C 0,D C 0,H ⟨#[]⟩,E none 0 0] 30 (0,0))):=fun u k=>(k.block (w.heap.size+2) (by omega)).trans H2.out
 have c0:=ac H1.out 0
 have c6:=ac H1.out 6
 simp at c0 c6
 have z1:w.heap.size+1<W.heap.size:=by rw[HZ.out];omega
 go_wp2_with fail
 clear c0 c6 z1
 go_loopg [10,75] l (fun q s10 s75 wr=>∃(i:Nat) (xs:List VR) (ov:Value),i≤l∧l-i≤q∧ov=s10∧s75=D C i∧xs.length=i∧wr.ownsRow (w.heap.size+3) 30 4 ov i (bR xs)∧Below (w.heap.size+3) W wr∧aA (VR.In (fun j=>(j<w0.heap.size∨w.heap.size+3≤j)∧ov.ownBlock≠some j) wr) xs ((A.take i).map G))
 case atStart=>exact⟨0,[],E none 0 0,Nat.zero_le _,by omega,rfl,rfl,rfl,World.ownsRow_nil _ _ _ _,L _ _,by simpa using aA.nil⟩
 case round=>
  obtain⟨i,xs,ov,hi,hg,rfl,rfl,hxs,hown,hbw,hpr⟩:=hrel
  have HOWN:=aa hown
  have HPR:=aa hpr
  have HXS:=aa hxs
  have hzw:w.heap.size+3≤wr.heap.size:=by have:=hbw.size;rw[HZ.out] at this;exact this
  have hw0:Below w.heap.size w wr:=HB.out.trans (hbw.mono (by omega))
  have hw00:Below w0.heap.size w0 wr:=HW.out.trans (hw0.mono HSZ.out)
  clear hown hpr hxs
  by_cases hlt:i<l
  ·obtain⟨b2,off2,xk,xvk,xvn,xvs,xva,xvl,xvc,xnm,xa,xl,xc,Lv',A',ha2,hbl2,hd,⟨e0,e1,e2,e3,e4,e5,e6⟩,hta⟩:=HAR.out.at (i:=i) hlt
   have HC:=aa (HIH.out xk xvk xvn xvs xva xvl xvc xnm xa xl xc Lv' A' hta (List.mem_of_mem_drop (i:=i) (by rw[hd];exact N ..)))
   have HTK2:Hid (A.take (i+1)=A.take i ++ [.node xk (.node xvk xvn xvs Lv') xnm A']):=by
    have e:A[i]? = some (.node xk (.node xvk xvn xvs Lv') xnm A'):=by
     have:=List.getElem?_drop (xs:=A) (i:=i) (j:=0)
     rw[hd] at this
     simpa using this.symm
    show A.take (i+1)=_
    rw[List.take_add_one,e]
    rfl
   subst ha2
   have q2:∀o,wr.cell? ⟨b2,o,none⟩=w0.cell? ⟨b2,o,none⟩:=fun o=>hw00.cell (p:=⟨b2,o,none⟩) hbl2
   have d0:=(q2 _).trans e0
   have d1:=(q2 _).trans e1
   have d2:=(q2 _).trans e2
   have d3:=(q2 _).trans e3
   have d4:=(q2 _).trans e4
   have d5:=(q2 _).trans e5
   have d6:=(q2 _).trans e6
   have hil:(i:Int)<l:=by omega
   have hkx:Below wr.heap.size wr (wr.alloc (F #[D C xk,D C xvk,D C xvn,H xvs,E xva xvl xvc,H xnm,E xa xl xc] 33)):=(L _ _).alloc (K _) _
   have hxb:=ae wr (F #[D C xk,D C xvk,D C xvn,H xvs,E xva xvl xvc,H xnm,E xa xl xc] 33)
   have hzx:(wr.alloc (F #[D C xk,D C xvk,D C xvn,H xvs,E xva xvl xvc,H xnm,E xa xl xc] 33)).heap.size=wr.heap.size+1:=by simp
   have HOX:=aa (HOWN.out.alloc (F #[D C xk,D C xvk,D C xvn,H xvs,E xva xvl xvc,H xnm,E xa xl xc] 33))
   have HBX:=aa (hbw.trans (hkx.mono hzw))
   have HKX:=aa hkx
   have HXB:=aa hxb
   have HZX:=aa hzx
   have HW0X:=aa (show Below w0.heap.size w0 (wr.alloc (F #[D C xk,D C xvk,D C xvn,H xvs,E xva xvl xvc,H xnm,E xa xl xc] 33)) from hw00.trans (hkx.mono hw00.size))
   clear e0 e1 e2 e3 e4 e5 e6 q2 hd hta hkx hxb hzx hbw hw0 hw00
   go_upto_region 18 with fail
   clear d0 d1 d2 d3 d4 d5 d6
   generalize wr.alloc (F #[D C xk,D C xvk,D C xvn,H xvs,E xva xvl xvc,H xnm,E xa xl xc] 33)=WX at HOX HBX HKX HXB HZX HW0X ⊢
   obtain⟨g0,g1,g2,g3,g4,g5,g6⟩:=bV HXB.out
   simp at g0 g1 g2 g3 g4 g5 g6
   have hgb:=HG1.out WX HBX.out
   obtain⟨v0,v1,v2⟩:=cj hgb
   simp at v0 v1 v2
   have hgs:w.heap.size<WX.heap.size:=lt_block' hgb
   clear hgb
   have hwX:wr.heap.size<WX.heap.size:=by rw[HZX.out];omega
   have HBy:(i+1)*56≤140737488355328:=by omega
   have HBm:i+1≤maxLen:=by unfold maxLen;omega
   go_wp2_with fail
   refine(HC.out _ HW0X.out).mono ?_
   rintro e u1 ⟨⟨rk,rn,rs,ra,rl,rc,Lr,rfl,hre,hrlc,hrs,hrL⟩,k1⟩
   have hu1:WX.heap.size≤u1.heap.size:=k1.size
   have hown2:u1.ownsRow (w.heap.size+3) 30 4 ov i (bR xs):=da HOX.out (fun g _ hgl=>k1.block g hgl)
   have hu2:w.heap.size+3≤u1.heap.size:=by omega
   have K1:=aa k1
   have HRE:=aa hre
   have HRL:=aa hrL
   have HRS:=aa (show rl≤rc∧rs.size≤9223372036854775807 from⟨hrlc,hrs⟩)
   have HO2:=aa hown2
   clear k1 hre hrL hrlc hrs hown2 g0 g1 g2 g3 g4 g5 g6 v0 v1 v2
   go_wp2_with (at_builtin;refine wpList_append_lies _ rfl _ _ 28 rfl (w.heap.size+3) 30 i0 _ 4 56 Tryz.underlying28 HI0.out HIZ.out HIS.out HIB.out rfl (by omega) ov i (bR xs) rfl (HO2.out.alloc _) ⟨u1.heap.size,0,none⟩ 1 1 ((⟨rk,rn,rs,ra,rl,rc⟩:VR).cells) rfl rfl (World.news_of_block (cs:=#[D C rk,D C rn,H rs,E ra rl rc]) (t:=30) (fr:=(0,0)) (ae u1 _)) (by simp[VR.cells,Value.oneCell']) (by omega) HBm HBy (by simp;omega) (u1.heap.size+1) (by simp) ?_)
   intro gg cap w5 hown5 hgrow hat5 hlt5
   have k1:=K1.out
   have hown2:=HO2.out
   have hle:=HSZ.out
   have hzx:=HZX.out
   have hb6:Below (w.heap.size+3) W w5:=((HBX.out.trans (k1.mono (by omega))).alloc (by omega) _).grown hgrow (by simp;omega) (fun j hj=>(hown2.lt j hj).1)
   have hsz5:u1.heap.size+1≤w5.heap.size:=by have:=hgrow.size;simpa using this
   have hkeep:∀j,ov.ownBlock≠some j→j<u1.heap.size→some gg≠some j∧w5.heap[j]? = u1.heap[j]?:=fun j hj hl=>by
    refine⟨fun e=>?_,?_⟩
    ·rcases hat5 with h | h
     ·exact hj (h.trans e)
     ·injection e with e;omega
    ·have q1:=hgrow.block j (by simp;omega) (Ne.symm hj)
     have q2:=((L u1.heap.size u1).alloc (K _) (F #[D C rk,D C rn,H rs,E ra rl rc] 30)).block j hl
     exact q1.trans q2
   have hold:aA (VR.In (fun j=>(j<w0.heap.size∨w.heap.size+3≤j)∧(Value.slice (some ⟨gg,0,none⟩) (i+1) cap).ownBlock≠some j) w5) xs ((A.take i).map G):=HPR.out.mono fun p x _ _ hp=>hp.kept (by omega) fun j hj hl=>by
    obtain⟨r1,r2⟩:=hkeep j hj.2 (by omega)
    exact⟨⟨hj.1,r1⟩,r2.trans ((k1.block j (by omega)).trans (HKX.out.block j hl))⟩
   have hnew:VR.In (fun j=>(j<w0.heap.size∨w.heap.size+3≤j)∧(Value.slice (some ⟨gg,0,none⟩) (i+1) cap).ownBlock≠some j) w5 (⟨rk,rn,rs,ra,rl,rc⟩:VR) (G (.node xk (.node xvk xvn xvs Lv') xnm A')):=⟨Lr,HRE.out,HRS.out.2,HRS.out.1,ap.kept (by omega) (fun j hj hl=>by
    have hn:ov.ownBlock≠some j:=fun e=>by
     have:=HOWN.out.lt j e
     rcases hj with h | h<;>omega
    obtain⟨r1,r2⟩:=hkeep j hn hl
    refine⟨⟨?_,r1⟩,r2⟩
    have hd:WX.drew.heap.size=WX.heap.size:=rfl
    rcases hj with h | h
    ·exact .inl h
    ·exact .inr (by omega)) _ _ _ HRL.out⟩
   have HP5:Hid (aA (VR.In (fun j=>(j<w0.heap.size∨w.heap.size+3≤j)∧(Value.slice (some ⟨gg,0,none⟩) (i+1) cap).ownBlock≠some j) w5) (xs ++ [(⟨rk,rn,rs,ra,rl,rc⟩:VR)]) ((A.take (i+1)).map G)):=by
    show aA _ _ _
    rw[HTK2.out,List.map_append]
    exact hold.snoc hnew
   have HOWN5:Hid (w5.ownsRow (w.heap.size+3) 30 4 (E (some ⟨gg,0,none⟩) (i+1) cap) (i+1) (bR (xs ++ [(⟨rk,rn,rs,ra,rl,rc⟩:VR)]))):=by
    rw[dR]
    exact hown5
   have HB6:=aa hb6
   clear hb6 hown5 hgrow hat5 hlt5 hown2 k1 hu1 hold hnew hkeep hsz5 hle hzx
   go_wp2_with fail
   go_roundg (l-(i+1))
   case measure=>omega
   case rel=>exact⟨i+1,xs ++ [(⟨rk,rn,rs,ra,rl,rc⟩:VR)],E (some ⟨gg,0,none⟩) (i+1) cap,by omega,by omega,rfl,by go_num,by rw[List.length_append,HXS.out];rfl,HOWN5.out,HB6.out,HP5.out⟩
  ·have hil:¬(i:Int)<l:=by omega
   have hll:i=l:=by omega
   have hA:A.take i=A:=List.take_of_length_le (by have:=HLEN.out;omega)
   have hpr:=HPR.out
   rw[hA] at hpr
   obtain⟨oa,oc,hov,hlc,hLA⟩:∃oa oc,ov=E oa l oc∧l≤oc∧ap (fun j=>j<w0.heap.size∨w.heap.size+3≤j) wr (A.map G) oa l:=by
    obtain⟨oa,ol,oc,hov⟩:∃oa ol oc,ov=E oa ol oc:=by
     rcases HOWN.out.2 with⟨e,_⟩ | ⟨g,cap,cur,e,_⟩
     ·exact⟨_,_,_,e⟩
     ·exact⟨_,_,_,e⟩
    subst hov
    have hr:=HOWN.out
    rw[←HXS.out] at hr
    obtain⟨v1,v2,v3⟩:=dI (n:=0) (A:=fun j=>j<w0.heap.size∨w.heap.size+3≤j) hr (fun g hg=>.inr (by omega)) (hpr.mono fun p x _ _ hp=>hp.kept (K _) fun j hj _=>⟨hj.1,rfl⟩)
    have e:ol=l:=by rw[v1,List.length_map,←HLEN.out]
    rw[e] at v2 v3
    exact⟨oa,oc,by rw[e],v2,v3⟩
   subst hov
   obtain⟨TS,hTS⟩:∃z,z=A.map G:=⟨_,rfl⟩
   rw[←hTS] at hLA
   have HTS:=aa hTS
   have HCS:Hid (∀t ∈ TS,Ck 6 t):=fun t ht=>by
    rw[hTS] at ht
    obtain⟨y,hy,rfl⟩:=List.mem_map.1 ht
    exact HCW.out y hy
   have hVb:Below wr.heap.size wr ((wr.alloc (F #[D C 0,D C 2,D C 1] 3)).alloc (F #[D C 0,D C 2,D C 1] 3)):=((L _ _).alloc (K _) _).alloc (by simp) _
   have HV13:Hid (((wr.alloc (F #[D C 0,D C 2,D C 1] 3)).alloc (F #[D C 0,D C 2,D C 1] 3)).heap[wr.heap.size]? = some (F #[D C 0,D C 2,D C 1] 3 (0,0))):=(Below.heap_alloc (wr.alloc (F #[D C 0,D C 2,D C 1] 3)) (F #[D C 0,D C 2,D C 1] 3) wr.heap.size (by simp)).trans (ae wr (F #[D C 0,D C 2,D C 1] 3))
   have HV14:=aa (ay wr (F #[D C 0,D C 2,D C 1] 3) (F #[D C 0,D C 2,D C 1] 3))
   have HZV:Hid (((wr.alloc (F #[D C 0,D C 2,D C 1] 3)).alloc (F #[D C 0,D C 2,D C 1] 3)).heap.size=wr.heap.size+2):=by show _=_;simp
   have HBV:=aa (hbw.trans (hVb.mono (by have:=hbw.size;rw[HZ.out] at this;exact this)))
   have HWV:=aa (af hw0 hVb)
   have HLV:=aa (hLA.below hVb)
   have hzwr:w.heap.size+3≤wr.heap.size:=by have:=hbw.size;rw[HZ.out] at this;exact this
   have HLC:=aa hlc
   clear hVb hLA hpr hA hTS hbw hw0 hw00 HOWN HPR hlc
   go_upto_region 22 with fail
   generalize (wr.alloc (F #[D C 0,D C 2,D C 1] 3)).alloc (F #[D C 0,D C 2,D C 1] 3)=V at HV13 HV14 HZV HBV HWV HLV ⊢
   have c5:=ac (HT1.out V HBV.out) 5
   simp at c5
   have z5:w.heap.size+1<V.heap.size:=lt_block' (HT1.out V HBV.out)
   have hV3:w.heap.size+3≤V.heap.size:=by have:=HZV.out;omega
   have hm0:(nm.toList == [43])=false:=ak (j:=0) HO.out rfl (by decide)
   have hm1:(nm.toList == [45])=false:=ak (j:=1) HO.out rfl (by decide)
   have hm2:(nm.toList == [42])=false:=ak (j:=2) HO.out rfl (by decide)
   have hm3:(nm.toList == [61])=false:=ak (j:=3) HO.out rfl (by decide)
   have hm4:(nm.toList == [60])=false:=ak (j:=4) HO.out rfl (by decide)
   have hm5:(nm.toList == [60,61])=true:=b9 HO.out rfl
   have hl2:l=2:=by
    have h:=HTK.out
    have h2:=HLEN.out
    rw[show an 5=2 from by decide] at h
    omega
   obtain⟨b,off,k0,n0,s0,L0,a0,l0,c0,ha,hAb,hbl,hd0,x0,x1,x2,x3,hlc0,hs0,hL0⟩:=HLV.out.at (i:=0) (by omega)
   obtain⟨b',off',k1,n1,s1,L1,a1,l1,c1,ha',-,-,hd1,y0,y1,y2,y3,hlc1,hs1,hL1⟩:=HLV.out.at (i:=1) (by omega)
   rw[ha] at ha'
   injection ha' with ha'
   injection ha' with e1 e2
   subst e1 e2
   rw[Nat.one_mul] at y0 y1 y2 y3
   subst ha
   rw[Nat.zero_mul,Nat.add_zero] at x0 x1 x2 x3
   have hb2:b≠w.heap.size+2:=by have h1:=HSZ.out;rcases hAb with h | h<;>omega
   have HTL:Hid (TS = [.node k0 n0 s0 L0,.node k1 n1 s1 L1]):=by
    have e0:TS = .node k0 n0 s0 L0::TS.drop 1:=by simpa using hd0
    have e3:TS.drop 2 = []:=List.drop_eq_nil_of_le (by have:=HLV.out.len.1;omega)
    rw[hd1,e3] at e0
    exact e0
   have HC0:Hid (Ck 6 (.node k0 n0 s0 L0)):=HCS.out _ (by rw[HTL.out];exact N ..)
   have HC1:Hid (Ck 6 (.node k1 n1 s1 L1)):=HCS.out _ (by rw[HTL.out];exact List.mem_cons_of_mem _ (N ..))
   have HL0:=aa hL0
   have HL1:=aa hL1
   have HC:=aa (show(l0≤c0∧s0.size≤9223372036854775807)∧(l1≤c1∧s1.size≤9223372036854775807) from⟨⟨hlc0,hs0⟩,⟨hlc1,hs1⟩⟩)
   have RC8:∀u,(∀o,u.cell? ⟨b,o,none⟩=V.cell? ⟨b,o,none⟩)→R8 u b off k0 n0 s0 a0 l0 c0 k1 n1 s1 a1 l1 c1:=fun u q=>⟨⟨(q _).trans x0,(q _).trans x1,(q _).trans x2,(q _).trans x3⟩,⟨(q _).trans y0,(q _).trans y1,(q _).trans y2,(q _).trans y3⟩⟩
   have HRC:=aa RC8
   clear x0 x1 x2 x3 y0 y1 y2 y3 RC8 hd0 hd1 hL0 hL1 hlc0 hlc1 hs0 hs1
   have HVE:Hid (opF 5 (A.map G)=cG (cy (.node k1 n1 s1 L1) (.node k0 n0 s0 L0))):=by
    show _=_
    rw[←HTS.out,HTL.out]
    rfl
   have HP0:=aa HC0.out.cw.parts
   have HP1:=aa HC1.out.cw.parts
   have HFN:Hid (∀u,Below V.heap.size V u→Calls Tryz.prog 34 #[vC k1 n1 s1 a1 l1 c1,vC k0 n0 s0 a0 l0 c0] u fun e w'=>e=I (vC (bz (.node k1 n1 s1 L1) (.node k0 n0 s0 L0)).1 (bz (.node k1 n1 s1 L1) (.node k0 n0 s0 L0)).2 ⟨#[]⟩ none 0 0)∧Below u.heap.size u w'):=fun u ku=>by
    have h1:=HP0.out.2.2.2
    have h2:=HP1.out.2.2.2
    exact kh k1 n1 s1 a1 l1 c1 k0 n0 s0 a0 l0 c0 L1 L0 u (ap.lies _ _ _ (HL1.out.below ku)) (ap.lies _ _ _ (HL0.out.below ku)) (by omega) (by omega)
   have hls:bz (.node k1 n1 s1 L1) (.node k0 n0 s0 L0)=(1,0)∨bz (.node k1 n1 s1 L1) (.node k0 n0 s0 L0)=(1,1)∨bz (.node k1 n1 s1 L1) (.node k0 n0 s0 L0)=(0,0):=by
    have e:bz (.node k1 n1 s1 L1) (.node k0 n0 s0 L0)=if k1=k0∧(k1=2∨k1=3) then ((1:Int),if cY (.node k1 n1 s1 L1) (.node k0 n0 s0 L0)<0 then (1:Int) else 0) else (0,0):=rfl
    rw[e]
    split
    ·split
     ·exact .inr (.inl rfl)
     ·exact .inl rfl
    ·exact .inr (.inr rfl)
   subst hl2
   go_upto_region 35 with fail
   clear c5 z5
   obtain⟨⟨x0,x1,x2,x3⟩,⟨y0,y1,y2,y3⟩⟩:=HRC.out V fun _=>rfl
   have D0:Below V.heap.size V V.drew:=(L _ _).drew
   have hbV:b<V.heap.size:=hbl
   have DA:Below V.heap.size V (V.drew.alloc (F #[D C 1,D C 0,D C 2] 3)):=D0.alloc (K _) _
   have HRB:Hid (∀u,Below V.heap.size V u→u.heap[w.heap.size+2]? = some (F #[D C 0,D C 0,H ⟨#[]⟩,E none 0 0] 30 (0,0))):=fun u ku=>HR1.out u (HBV.out.trans (ku.mono (by omega)))
   obtain⟨⟨w0',w1',w2',w3'⟩,⟨v0',v1',v2',v3'⟩⟩:=HRC.out (V.drew.alloc (F #[D C 1,D C 0,D C 2] 3)) fun o=>DA.cell (p:=⟨b,o,none⟩) hbl
   have hbA:b<(V.drew.alloc (F #[D C 1,D C 0,D C 2] 3)).heap.size:=Nat.lt_of_lt_of_le hbl DA.size
   rcases hls with hls | hls | hls
   ·have HVE2:Hid (opF 5 (A.map G) = .node 1 1 ⟨#[]⟩ []):=HVE.out.trans (by unfold cy;rw[hls];rfl)
    rw[hls] at HFN
    have HSA:Hid (∀u,Calls Tryz.prog 35 #[vC 1 0 ⟨#[]⟩ none 0 0] u fun e w'=>e=I (D C 0)∧Below u.heap.size u w'):=fun u=>bQ 1 0 ⟨#[]⟩ none 0 0 u
    have HTR:Hid (∀u,Calls Tryz.prog 24 #[D C 1] u fun e w'=>e=I (vC 1 1 ⟨#[]⟩ none 0 0)∧Below u.heap.size u w'):=fun u=>dj 1 1 1 rfl u
    clear hls HVE
    go_region_law (first
     | (go_simp;go_at_call 24;refine(HTR.out u2).mono ?_;rintro e u3 ⟨rfl,h3⟩;have k3:Below V.heap.size V u3:=k2.trans (h3.mono k2.size);have hb1:=HRB.out u3 k3;have r0:=ac hb1 0;have r1:=ac hb1 1;have r2:=ac hb1 2;have r3:=ac hb1 3;have f0:=aj hb1 0;have f1:=aj hb1 1;have f2:=aj hb1 2;have f3:=aj hb1 3;simp at r0 r1 r2 r3;have hsq:w.heap.size+2<u3.heap.size:=lt_block' hb1)
     | (go_simp;go_at_call 24;refine(HTR.out (u2.alloc (F #[D C 1,D C 0,D C 2] 3))).mono ?_;rintro e u3 ⟨rfl,h3⟩;have k3:Below V.heap.size V u3:=(k2.alloc k2.size (F #[D C 1,D C 0,D C 2] 3)).trans (h3.mono (J k2.size (by simp)));have hb1:=HRB.out u3 k3;have r0:=ac hb1 0;have r1:=ac hb1 1;have r2:=ac hb1 2;have r3:=ac hb1 3;have f0:=aj hb1 0;have f1:=aj hb1 1;have f2:=aj hb1 2;have f3:=aj hb1 3;simp at r0 r1 r2 r3;have hsq:w.heap.size+2<u3.heap.size:=lt_block' hb1)
     | (go_simp;go_at_call 35;refine(HSA.out (u1.alloc (F #[D C 1,D C 0,D C 2] 3))).mono ?_;rintro e u2 ⟨rfl,h2⟩;have k2:Below V.heap.size V u2:=(kk1.alloc kk1.size (F #[D C 1,D C 0,D C 2] 3)).trans (h2.mono (J kk1.size (by simp)));have hA:=(h2.block u1.heap.size (by simp)).trans (ae u1 (F #[D C 1,D C 0,D C 2] 3));have q0:=ac hA 0;have q1:=ac hA 1;have q2:=ac hA 2;simp at q0 q1 q2;have hqs:u1.heap.size<u2.heap.size:=lt_block' hA)
     | (go_simp;go_at_call 35;refine(HSA.out u1).mono ?_;rintro e u2 ⟨rfl,h2⟩;have k2:Below V.heap.size V u2:=kk1.trans (h2.mono kk1.size);have hA:=(h2.block V.heap.size (lt_block' hA1)).trans hA1;have q0:=ac hA 0;have q1:=ac hA 1;have q2:=ac hA 2;simp at q0 q1 q2;have hqs:V.heap.size<u2.heap.size:=lt_block' hA)
     | (go_simp;go_at_call 35;refine(HSA.out u1).mono ?_;rintro e u2 ⟨rfl,h2⟩;have k2:Below V.heap.size V u2:=kk1.trans (h2.mono kk1.size))
     | (go_simp;go_at_call 34;refine(HFN.out (V.drew.alloc (F #[D C 1,D C 0,D C 2] 3)) DA).mono ?_;rintro e u1 ⟨rfl,h1⟩;have kk1:Below V.heap.size V u1:=DA.trans (h1.mono (by simp));have hA1:=(h1.block V.heap.size (by simp)).trans (ae V.drew (F #[D C 1,D C 0,D C 2] 3)))
     | (go_simp;go_at_call 34;refine(HFN.out V.drew D0).mono ?_;rintro e u1 ⟨rfl,h1⟩;have kk1:Below V.heap.size V u1:=D0.trans h1))
    all_goals
     go_wp2_with fail
     obtain⟨Y,eY,⟨t0,t1,t2,t3⟩,hbb,hoth,hsz⟩:=ba (w:=w) (HRB.out u3 k3) rfl (af HWV.out k3) (by omega) (D C 1) (D C 1) (H ⟨#[]⟩) (E none 0 0)
     rw[eY]
     exact bodyPost_ret (v:=vC (1) (1) ⟨#[]⟩ none 0 0) (by simp[results,Tryz.results12,go_sem,t0,t1,t2,t3]) rfl ⟨(by rw[HVE2.out];exact aL.flat _ _ _ (by decide)),hbb⟩
   ·have HVE2:Hid (opF 5 (A.map G) = .node 1 0 ⟨#[]⟩ []):=HVE.out.trans (by unfold cy;rw[hls];rfl)
    rw[hls] at HFN
    have HSA:Hid (∀u,Calls Tryz.prog 35 #[vC 1 1 ⟨#[]⟩ none 0 0] u fun e w'=>e=I (D C 1)∧Below u.heap.size u w'):=fun u=>bQ 1 1 ⟨#[]⟩ none 0 0 u
    have HTR:Hid (∀u,Calls Tryz.prog 24 #[D C 0] u fun e w'=>e=I (vC 1 0 ⟨#[]⟩ none 0 0)∧Below u.heap.size u w'):=fun u=>dj 0 1 0 rfl u
    clear hls HVE
    go_region_law (first
     | (go_simp;go_at_call 24;refine(HTR.out u2).mono ?_;rintro e u3 ⟨rfl,h3⟩;have k3:Below V.heap.size V u3:=k2.trans (h3.mono k2.size);have hb1:=HRB.out u3 k3;have r0:=ac hb1 0;have r1:=ac hb1 1;have r2:=ac hb1 2;have r3:=ac hb1 3;have f0:=aj hb1 0;have f1:=aj hb1 1;have f2:=aj hb1 2;have f3:=aj hb1 3;simp at r0 r1 r2 r3;have hsq:w.heap.size+2<u3.heap.size:=lt_block' hb1)
     | (go_simp;go_at_call 24;refine(HTR.out (u2.alloc (F #[D C 1,D C 0,D C 2] 3))).mono ?_;rintro e u3 ⟨rfl,h3⟩;have k3:Below V.heap.size V u3:=(k2.alloc k2.size (F #[D C 1,D C 0,D C 2] 3)).trans (h3.mono (J k2.size (by simp)));have hb1:=HRB.out u3 k3;have r0:=ac hb1 0;have r1:=ac hb1 1;have r2:=ac hb1 2;have r3:=ac hb1 3;have f0:=aj hb1 0;have f1:=aj hb1 1;have f2:=aj hb1 2;have f3:=aj hb1 3;simp at r0 r1 r2 r3;have hsq:w.heap.size+2<u3.heap.size:=lt_block' hb1)
     | (go_simp;go_at_call 35;refine(HSA.out (u1.alloc (F #[D C 1,D C 0,D C 2] 3))).mono ?_;rintro e u2 ⟨rfl,h2⟩;have k2:Below V.heap.size V u2:=(kk1.alloc kk1.size (F #[D C 1,D C 0,D C 2] 3)).trans (h2.mono (J kk1.size (by simp)));have hA:=(h2.block u1.heap.size (by simp)).trans (ae u1 (F #[D C 1,D C 0,D C 2] 3));have q0:=ac hA 0;have q1:=ac hA 1;have q2:=ac hA 2;simp at q0 q1 q2;have hqs:u1.heap.size<u2.heap.size:=lt_block' hA)
     | (go_simp;go_at_call 35;refine(HSA.out u1).mono ?_;rintro e u2 ⟨rfl,h2⟩;have k2:Below V.heap.size V u2:=kk1.trans (h2.mono kk1.size);have hA:=(h2.block V.heap.size (lt_block' hA1)).trans hA1;have q0:=ac hA 0;have q1:=ac hA 1;have q2:=ac hA 2;simp at q0 q1 q2;have hqs:V.heap.size<u2.heap.size:=lt_block' hA)
     | (go_simp;go_at_call 35;refine(HSA.out u1).mono ?_;rintro e u2 ⟨rfl,h2⟩;have k2:Below V.heap.size V u2:=kk1.trans (h2.mono kk1.size))
     | (go_simp;go_at_call 34;refine(HFN.out (V.drew.alloc (F #[D C 1,D C 0,D C 2] 3)) DA).mono ?_;rintro e u1 ⟨rfl,h1⟩;have kk1:Below V.heap.size V u1:=DA.trans (h1.mono (by simp));have hA1:=(h1.block V.heap.size (by simp)).trans (ae V.drew (F #[D C 1,D C 0,D C 2] 3)))
     | (go_simp;go_at_call 34;refine(HFN.out V.drew D0).mono ?_;rintro e u1 ⟨rfl,h1⟩;have kk1:Below V.heap.size V u1:=D0.trans h1))
    all_goals
     go_wp2_with fail
     obtain⟨Y,eY,⟨t0,t1,t2,t3⟩,hbb,hoth,hsz⟩:=ba (w:=w) (HRB.out u3 k3) rfl (af HWV.out k3) (by omega) (D C 1) (D C 0) (H ⟨#[]⟩) (E none 0 0)
     rw[eY]
     exact bodyPost_ret (v:=vC (1) (0) ⟨#[]⟩ none 0 0) (by simp[results,Tryz.results12,go_sem,t0,t1,t2,t3]) rfl ⟨(by rw[HVE2.out];exact aL.flat _ _ _ (by decide)),hbb⟩
   ·have HVE2:Hid (opF 5 (A.map G) = .node 0 0 ⟨#[]⟩ []):=HVE.out.trans (by unfold cy;rw[hls];rfl)
    rw[hls] at HFN
    have HSA:Hid (∀u,Calls Tryz.prog 35 #[vC 0 0 ⟨#[]⟩ none 0 0] u fun e w'=>e=I (D C 2)∧Below u.heap.size u w'):=fun u=>bQ 0 0 ⟨#[]⟩ none 0 0 u
    have HTR:Hid (∀u,Calls Tryz.prog 24 #[D C 2] u fun e w'=>e=I (vC 0 0 ⟨#[]⟩ none 0 0)∧Below u.heap.size u w'):=fun u=>dj 2 0 0 rfl u
    clear hls HVE
    go_region_law (first
     | (go_simp;go_at_call 24;refine(HTR.out u2).mono ?_;rintro e u3 ⟨rfl,h3⟩;have k3:Below V.heap.size V u3:=k2.trans (h3.mono k2.size);have hb1:=HRB.out u3 k3;have r0:=ac hb1 0;have r1:=ac hb1 1;have r2:=ac hb1 2;have r3:=ac hb1 3;have f0:=aj hb1 0;have f1:=aj hb1 1;have f2:=aj hb1 2;have f3:=aj hb1 3;simp at r0 r1 r2 r3;have hsq:w.heap.size+2<u3.heap.size:=lt_block' hb1)
     | (go_simp;go_at_call 24;refine(HTR.out (u2.alloc (F #[D C 1,D C 0,D C 2] 3))).mono ?_;rintro e u3 ⟨rfl,h3⟩;have k3:Below V.heap.size V u3:=(k2.alloc k2.size (F #[D C 1,D C 0,D C 2] 3)).trans (h3.mono (J k2.size (by simp)));have hb1:=HRB.out u3 k3;have r0:=ac hb1 0;have r1:=ac hb1 1;have r2:=ac hb1 2;have r3:=ac hb1 3;have f0:=aj hb1 0;have f1:=aj hb1 1;have f2:=aj hb1 2;have f3:=aj hb1 3;simp at r0 r1 r2 r3;have hsq:w.heap.size+2<u3.heap.size:=lt_block' hb1)
     | (go_simp;go_at_call 35;refine(HSA.out (u1.alloc (F #[D C 1,D C 0,D C 2] 3))).mono ?_;rintro e u2 ⟨rfl,h2⟩;have k2:Below V.heap.size V u2:=(kk1.alloc kk1.size (F #[D C 1,D C 0,D C 2] 3)).trans (h2.mono (J kk1.size (by simp)));have hA:=(h2.block u1.heap.size (by simp)).trans (ae u1 (F #[D C 1,D C 0,D C 2] 3));have q0:=ac hA 0;have q1:=ac hA 1;have q2:=ac hA 2;simp at q0 q1 q2;have hqs:u1.heap.size<u2.heap.size:=lt_block' hA)
     | (go_simp;go_at_call 35;refine(HSA.out u1).mono ?_;rintro e u2 ⟨rfl,h2⟩;have k2:Below V.heap.size V u2:=kk1.trans (h2.mono kk1.size);have hA:=(h2.block V.heap.size (lt_block' hA1)).trans hA1;have q0:=ac hA 0;have q1:=ac hA 1;have q2:=ac hA 2;simp at q0 q1 q2;have hqs:V.heap.size<u2.heap.size:=lt_block' hA)
     | (go_simp;go_at_call 35;refine(HSA.out u1).mono ?_;rintro e u2 ⟨rfl,h2⟩;have k2:Below V.heap.size V u2:=kk1.trans (h2.mono kk1.size))
     | (go_simp;go_at_call 34;refine(HFN.out (V.drew.alloc (F #[D C 1,D C 0,D C 2] 3)) DA).mono ?_;rintro e u1 ⟨rfl,h1⟩;have kk1:Below V.heap.size V u1:=DA.trans (h1.mono (by simp));have hA1:=(h1.block V.heap.size (by simp)).trans (ae V.drew (F #[D C 1,D C 0,D C 2] 3)))
     | (go_simp;go_at_call 34;refine(HFN.out V.drew D0).mono ?_;rintro e u1 ⟨rfl,h1⟩;have kk1:Below V.heap.size V u1:=D0.trans h1))
    all_goals
     go_wp2_with fail
     obtain⟨Y,eY,⟨t0,t1,t2,t3⟩,hbb,hoth,hsz⟩:=ba (w:=w) (HRB.out u3 k3) rfl (af HWV.out k3) (by omega) (D C 0) (D C 0) (H ⟨#[]⟩) (E none 0 0)
     rw[eY]
     exact bodyPost_ret (v:=vC (0) (0) ⟨#[]⟩ none 0 0) (by simp[results,Tryz.results12,go_sem,t0,t1,t2,t3]) rfl ⟨(by rw[HVE2.out];exact aL.flat _ _ _ (by decide)),hbb⟩
end Go.Proofs.YtijjpoohhgapoaaGreatDoor

import Derived.Test.YtijjpoohhgapoaaGreatDoorVQBG
namespace Go.Proofs.YtijjpoohhgapoaaGreatDoor
open Go.RowKit
set_option linter.unusedVariables false
set_option maxHeartbeats 4000000
set_option maxRecDepth 100000
open Value renaming slice → C, int → F, string → H, agg → L, pointer → N
open IntKind renaming i64 → D
open Obj renaming cells → I
open RowKit.Below renaming refl → J
open Nat renaming le_refl → K
open Ending renaming returned → M
theorem uz {B:Nat} {G:Tm→T} (w0 w:World) (na:Option Addr) (nl nc:Nat) (ea:Option Addr) (el ec:Nat) (next:Int) (vk vn:Int) (vs:ByteArray) (va:Option Addr) (vl vc:Nat) (nm:ByteArray) (a:Option Addr) (l c:Nat) (Lv:List T) (A:List Tm) (m:Nat) (E:List Ed) (hEE:bO w0 E ea el) (typ:ByteArray) (id:Int) (hid:A.map G = [eL id]) (hin:id ∈ E.map Ed.id) (hty:∀ed ∈ E,ed.id=id→ed.typ=typ) (hun:∀(i j:Nat) (x y:Ed),E[i]? = some x→E[j]? = some y→x.id=y.id→i=j) (hts:typ.size≤9223372036854775807) (hw:Below w0.heap.size w0 w) (hB:B≤w0.heap.size) (hT:bD B w0) (ht:bd w0 4 vk vn vs va vl vc nm a l c Lv A) (ho:bN nm=some 16) (htk:an 16 = -1∨an 16=A.length) (h30:A.length≤30) (hcw:∀y ∈ A,Ck 6 (G y)) (IH:∀(xk xvk xvn:Int) (xvs:ByteArray) (xva:Option Addr) (xvl xvc:Nat) (xnm:ByteArray) (xa:Option Addr) (xl xc:Nat) (Lv:List T) (A':List Tm),bd w0 xk xvk xvn xvs xva xvl xvc xnm xa xl xc Lv A'→.node xk (.node xvk xvn xvs Lv) xnm A' ∈ A→∀W,Below w0.heap.size w0 W→Calls Tryz.prog 12 #[L #[C na nl nc,C ea el ec,F D next],.map (some m),L #[F D xk,F D xvk,F D xvn,H xvs,C xva xvl xvc,H xnm,C xa xl xc]] W fun e w'=>aL (fun i=>i<w0.heap.size) W w' (G (.node xk (.node xvk xvn xvs Lv) xnm A')) e∧Below W.heap.size W w'):Calls Tryz.prog 12 #[L #[C na nl nc,C ea el ec,F D next],.map (some m),L #[F D 4,F D vk,F D vn,H vs,C va vl vc,H nm,C a l c]] w fun e w'=>aL (fun i=>i<w0.heap.size) w w' (.node 3 0 typ []) e∧Below w.heap.size w w':=by
 have HEE:=aa hEE
 have HID:=aa hid
 have HIN:=aa hin
 have HTY:=aa hty
 have HUN:=aa hun
 clear hEE hid hin hty hun
 have hlen:=ht.args.len.1
 have hl30:l≤30:=by rw[hlen];exact h30
 obtain⟨i0,hi0,hiz,his,hib⟩:=dw
 have HI0:=aa hi0
 have HIZ:=aa hiz
 have HIS:=aa his
 have HIB:=aa hib
 have HAR:=aa ht.args
 have HLEN:=aa hlen
 have HIH:=aa IH
 have HCW:=aa hcw
 have HTK:=aa htk
 have HTB:=aa hT
 have HBB:=aa hB
 have HO:=aa ho
 have hb3:Below w.heap.size w (((w.alloc (I #[C na nl nc,C ea el ec,F D next] 25)).alloc (I #[F D 4,F D vk,F D vn,H vs,C va vl vc,H nm,C a l c] 33)).alloc (I #[F D 0,F D 0,H ⟨#[]⟩,C none 0 0] 30)):=(((J _ _).alloc (K _) _).alloc (by simp) _).alloc (by simp;omega) _
 have hz:(((w.alloc (I #[C na nl nc,C ea el ec,F D next] 25)).alloc (I #[F D 4,F D vk,F D vn,H vs,C va vl vc,H nm,C a l c] 33)).alloc (I #[F D 0,F D 0,H ⟨#[]⟩,C none 0 0] 30)).heap.size=w.heap.size+3:=by simp
 have h0:(((w.alloc (I #[C na nl nc,C ea el ec,F D next] 25)).alloc (I #[F D 4,F D vk,F D vn,H vs,C va vl vc,H nm,C a l c] 33)).alloc (I #[F D 0,F D 0,H ⟨#[]⟩,C none 0 0] 30)).heap[w.heap.size]? = some (I #[C na nl nc,C ea el ec,F D next] 25 (0,0)):=(aK w (I #[C na nl nc,C ea el ec,F D next] 25) (I #[F D 4,F D vk,F D vn,H vs,C va vl vc,H nm,C a l c] 33) (I #[F D 0,F D 0,H ⟨#[]⟩,C none 0 0] 30)).1
 have h1:(((w.alloc (I #[C na nl nc,C ea el ec,F D next] 25)).alloc (I #[F D 4,F D vk,F D vn,H vs,C va vl vc,H nm,C a l c] 33)).alloc (I #[F D 0,F D 0,H ⟨#[]⟩,C none 0 0] 30)).heap[w.heap.size+1]? = some (I #[F D 4,F D vk,F D vn,H vs,C va vl vc,H nm,C a l c] 33 (0,0)):=(aK w (I #[C na nl nc,C ea el ec,F D next] 25) (I #[F D 4,F D vk,F D vn,H vs,C va vl vc,H nm,C a l c] 33) (I #[F D 0,F D 0,H ⟨#[]⟩,C none 0 0] 30)).2.1
 have h2:(((w.alloc (I #[C na nl nc,C ea el ec,F D next] 25)).alloc (I #[F D 4,F D vk,F D vn,H vs,C va vl vc,H nm,C a l c] 33)).alloc (I #[F D 0,F D 0,H ⟨#[]⟩,C none 0 0] 30)).heap[w.heap.size+2]? = some (I #[F D 0,F D 0,H ⟨#[]⟩,C none 0 0] 30 (0,0)):=(aK w (I #[C na nl nc,C ea el ec,F D next] 25) (I #[F D 4,F D vk,F D vn,H vs,C va vl vc,H nm,C a l c] 33) (I #[F D 0,F D 0,H ⟨#[]⟩,C none 0 0] 30)).2.2
 have HB:=aa hb3
 have HZ:=aa hz
 have H0:=aa h0
 have H1:=aa h1
 have H2:=aa h2
 clear hb3 hz h0 h1 h2
 have HW:=aa hw
 have HSZ:=aa hw.size
 clear ht hT hi0 hiz his hib hw hlen IH hcw htk hB h30 ho
 go_enter Tryz.func12,Tryz.ntmps12
 go_upto_region 1 with fail
 generalize (((w.alloc (I #[C na nl nc,C ea el ec,F D next] 25)).alloc (I #[F D 4,F D vk,F D vn,H vs,C va vl vc,H nm,C a l c] 33)).alloc (I #[F D 0,F D 0,H ⟨#[]⟩,C none 0 0] 30))=W at HB HZ H0 H1 H2 ⊢
 have HG1:Hid (∀u,Below (w.heap.size+3) W u→u.heap[w.heap.size]? = some (I #[C na nl nc,C ea el ec,F D next] 25 (0,0))):=fun u k=>(k.block w.heap.size (by omega)).trans H0.out
 have HT1:Hid (∀u,Below (w.heap.size+3) W u→u.heap[w.heap.size+1]? = some (I #[F D 4,F D vk,F D vn,H vs,C va vl vc,H nm,C a l c] 33 (0,0))):=fun u k=>(k.block (w.heap.size+1) (by omega)).trans H1.out
 have HR1:Hid (∀u,Below (w.heap.size+3) W u→u.heap[w.heap.size+2]? = some (I #[F D 0,F D 0,H ⟨#[]⟩,C none 0 0] 30 (0,0))):=fun u k=>(k.block (w.heap.size+2) (by omega)).trans H2.out
 have c0:=ac H1.out 0
 have c6:=ac H1.out 6
 simp at c0 c6
 have z1:w.heap.size+1<W.heap.size:=by rw[HZ.out];omega
 go_wp2_with fail
 clear c0 c6 z1
 go_loopg [10,75] l (fun q s10 s75 wr=>∃(i:Nat) (xs:List VR) (ov:Value),i≤l∧l-i≤q∧ov=s10∧s75=F D i∧xs.length=i∧wr.ownsRow (w.heap.size+3) 30 4 ov i (bR xs)∧Below (w.heap.size+3) W wr∧aA (VR.In (fun j=>(j<w0.heap.size∨w.heap.size+3≤j)∧ov.ownBlock≠some j) wr) xs ((A.take i).map G))
 case atStart=>exact⟨0,[],C none 0 0,Nat.zero_le _,by omega,rfl,rfl,rfl,World.ownsRow_nil _ _ _ _,J _ _,by simpa using aA.nil⟩
 case round=>
  obtain⟨i,xs,ov,hi,hg,rfl,rfl,hxs,hown,hbw,hpr⟩:=hrel
  have HOWN:=aa hown
  have HPR:=aa hpr
  have HXS:=aa hxs
  have hzw:w.heap.size+3≤wr.heap.size:=by have:=hbw.size;rw[HZ.out] at this;exact this
  have hw0:Below w.heap.size w wr:=HB.out.trans (hbw.mono (by omega))
  have hw00:Below w0.heap.size w0 wr:=HW.out.trans (hw0.mono HSZ.out)
  clear hown hpr hxs
  by_cases hlt:i<l
  ·obtain⟨b2,off2,xk,xvk,xvn,xvs,xva,xvl,xvc,xnm,xa,xl,xc,Lv',A',ha2,hbl2,hd,⟨e0,e1,e2,e3,e4,e5,e6⟩,hta⟩:=HAR.out.at (i:=i) hlt
   have HC:=aa (HIH.out xk xvk xvn xvs xva xvl xvc xnm xa xl xc Lv' A' hta (List.mem_of_mem_drop (i:=i) (by rw[hd];exact List.mem_cons_self ..)))
   have HTK2:Hid (A.take (i+1)=A.take i ++ [.node xk (.node xvk xvn xvs Lv') xnm A']):=by
    have e:A[i]? = some (.node xk (.node xvk xvn xvs Lv') xnm A'):=by
     have:=List.getElem?_drop (xs:=A) (i:=i) (j:=0)
     rw[hd] at this
     simpa using this.symm
    show A.take (i+1)=_
    rw[List.take_add_one,e]
    rfl
   subst ha2
   have q2:∀o,wr.cell? ⟨b2,o,none⟩=w0.cell? ⟨b2,o,none⟩:=fun o=>hw00.cell (p:=⟨b2,o,none⟩) hbl2
   have d0:=(q2 _).trans e0
   have d1:=(q2 _).trans e1
   have d2:=(q2 _).trans e2
   have d3:=(q2 _).trans e3
   have d4:=(q2 _).trans e4
   have d5:=(q2 _).trans e5
   have d6:=(q2 _).trans e6
   have hil:(i:Int)<l:=by omega
   have hkx:Below wr.heap.size wr (wr.alloc (I #[F D xk,F D xvk,F D xvn,H xvs,C xva xvl xvc,H xnm,C xa xl xc] 33)):=(J _ _).alloc (K _) _
   have hxb:=ae wr (I #[F D xk,F D xvk,F D xvn,H xvs,C xva xvl xvc,H xnm,C xa xl xc] 33)
   have hzx:(wr.alloc (I #[F D xk,F D xvk,F D xvn,H xvs,C xva xvl xvc,H xnm,C xa xl xc] 33)).heap.size=wr.heap.size+1:=by simp
   have HOX:=aa (HOWN.out.alloc (I #[F D xk,F D xvk,F D xvn,H xvs,C xva xvl xvc,H xnm,C xa xl xc] 33))
   have HBX:=aa (hbw.trans (hkx.mono hzw))
   have HKX:=aa hkx
   have HXB:=aa hxb
   have HZX:=aa hzx
   have HW0X:=aa (show Below w0.heap.size w0 (wr.alloc (I #[F D xk,F D xvk,F D xvn,H xvs,C xva xvl xvc,H xnm,C xa xl xc] 33)) from hw00.trans (hkx.mono hw00.size))
   clear e0 e1 e2 e3 e4 e5 e6 q2 hd hta hkx hxb hzx hbw hw0 hw00
   go_upto_region 18 with fail
   clear d0 d1 d2 d3 d4 d5 d6
   generalize wr.alloc (I #[F D xk,F D xvk,F D xvn,H xvs,C xva xvl xvc,H xnm,C xa xl xc] 33)=WX at HOX HBX HKX HXB HZX HW0X ⊢
   obtain⟨g0,g1,g2,g3,g4,g5,g6⟩:=bV HXB.out
   simp at g0 g1 g2 g3 g4 g5 g6
   have hgb:=HG1.out WX HBX.out
   obtain⟨v0,v1,v2⟩:=cj hgb
   simp at v0 v1 v2
   have hgs:w.heap.size<WX.heap.size:=lt_block' hgb
   clear hgb
   have hwX:wr.heap.size<WX.heap.size:=by rw[HZX.out];omega
   have HBy:(i+1)*56≤140737488355328:=by omega
   have HBm:i+1≤maxLen:=by unfold maxLen;omega
   go_wp2_with fail
   refine(HC.out _ HW0X.out).mono ?_
   rintro e u1 ⟨⟨rk,rn,rs,ra,rl,rc,Lr,rfl,hre,hrlc,hrs,hrL⟩,k1⟩
   have hu1:WX.heap.size≤u1.heap.size:=k1.size
   have hown2:u1.ownsRow (w.heap.size+3) 30 4 ov i (bR xs):=da HOX.out (fun g _ hgl=>k1.block g hgl)
   have hu2:w.heap.size+3≤u1.heap.size:=by omega
   have K1:=aa k1
   have HRE:=aa hre
   have HRL:=aa hrL
   have HRS:=aa (show rl≤rc∧rs.size≤9223372036854775807 from⟨hrlc,hrs⟩)
   have HO2:=aa hown2
   clear k1 hre hrL hrlc hrs hown2 g0 g1 g2 g3 g4 g5 g6 v0 v1 v2
   go_wp2_with (at_builtin;refine wpList_append_lies _ rfl _ _ 28 rfl (w.heap.size+3) 30 i0 _ 4 56 Tryz.underlying28 HI0.out HIZ.out HIS.out HIB.out rfl (by omega) ov i (bR xs) rfl (HO2.out.alloc _) ⟨u1.heap.size,0,none⟩ 1 1 ((⟨rk,rn,rs,ra,rl,rc⟩:VR).cells) rfl rfl (World.news_of_block (cs:=#[F D rk,F D rn,H rs,C ra rl rc]) (t:=30) (fr:=(0,0)) (ae u1 _)) (by simp[VR.cells,Value.oneCell']) (by omega) HBm HBy (by simp;omega) (u1.heap.size+1) (by simp) ?_)
   intro gg cap w5 hown5 hgrow hat5 hlt5
   have k1:=K1.out
   have hown2:=HO2.out
   have hle:=HSZ.out
   have hzx:=HZX.out
   have hb6:Below (w.heap.size+3) W w5:=((HBX.out.trans (k1.mono (by omega))).alloc (by omega) _).grown hgrow (by simp;omega) (fun j hj=>(hown2.lt j hj).1)
   have hsz5:u1.heap.size+1≤w5.heap.size:=by have:=hgrow.size;simpa using this
   have hkeep:∀j,ov.ownBlock≠some j→j<u1.heap.size→some gg≠some j∧w5.heap[j]? = u1.heap[j]?:=fun j hj hl=>by
    refine⟨fun e=>?_,?_⟩
    ·rcases hat5 with h | h
     ·exact hj (h.trans e)
     ·injection e with e;omega
    ·have q1:=hgrow.block j (by simp;omega) (Ne.symm hj)
     have q2:=((J u1.heap.size u1).alloc (K _) (I #[F D rk,F D rn,H rs,C ra rl rc] 30)).block j hl
     exact q1.trans q2
   have hold:aA (VR.In (fun j=>(j<w0.heap.size∨w.heap.size+3≤j)∧(Value.slice (some ⟨gg,0,none⟩) (i+1) cap).ownBlock≠some j) w5) xs ((A.take i).map G):=HPR.out.mono fun p x _ _ hp=>hp.kept (by omega) fun j hj hl=>by
    obtain⟨r1,r2⟩:=hkeep j hj.2 (by omega)
    exact⟨⟨hj.1,r1⟩,r2.trans ((k1.block j (by omega)).trans (HKX.out.block j hl))⟩
   have hnew:VR.In (fun j=>(j<w0.heap.size∨w.heap.size+3≤j)∧(Value.slice (some ⟨gg,0,none⟩) (i+1) cap).ownBlock≠some j) w5 (⟨rk,rn,rs,ra,rl,rc⟩:VR) (G (.node xk (.node xvk xvn xvs Lv') xnm A')):=⟨Lr,HRE.out,HRS.out.2,HRS.out.1,ap.kept (by omega) (fun j hj hl=>by
    have hn:ov.ownBlock≠some j:=fun e=>by
     have:=HOWN.out.lt j e
     rcases hj with h | h<;>omega
    obtain⟨r1,r2⟩:=hkeep j hn hl
    refine⟨⟨?_,r1⟩,r2⟩
    have hd:WX.drew.heap.size=WX.heap.size:=rfl
    rcases hj with h | h
    ·exact .inl h
    ·exact .inr (by omega)) _ _ _ HRL.out⟩
   have HP5:Hid (aA (VR.In (fun j=>(j<w0.heap.size∨w.heap.size+3≤j)∧(Value.slice (some ⟨gg,0,none⟩) (i+1) cap).ownBlock≠some j) w5) (xs ++ [(⟨rk,rn,rs,ra,rl,rc⟩:VR)]) ((A.take (i+1)).map G)):=by
    show aA _ _ _
    rw[HTK2.out,List.map_append]
    exact hold.snoc hnew
   have HOWN5:Hid (w5.ownsRow (w.heap.size+3) 30 4 (C (some ⟨gg,0,none⟩) (i+1) cap) (i+1) (bR (xs ++ [(⟨rk,rn,rs,ra,rl,rc⟩:VR)]))):=by
    rw[dR]
    exact hown5
   have HB6:=aa hb6
   clear hb6 hown5 hgrow hat5 hlt5 hown2 k1 hu1 hold hnew hkeep hsz5 hle hzx
   go_wp2_with fail
   go_roundg (l-(i+1))
   case measure=>omega
   case rel=>exact⟨i+1,xs ++ [(⟨rk,rn,rs,ra,rl,rc⟩:VR)],C (some ⟨gg,0,none⟩) (i+1) cap,by omega,by omega,rfl,by go_num,by rw[List.length_append,HXS.out];rfl,HOWN5.out,HB6.out,HP5.out⟩
  ·have hil:¬(i:Int)<l:=by omega
   have hll:i=l:=by omega
   have hA:A.take i=A:=List.take_of_length_le (by have:=HLEN.out;omega)
   have hpr:=HPR.out
   rw[hA] at hpr
   obtain⟨oa,oc,hov,hlc,hLA⟩:∃oa oc,ov=C oa l oc∧l≤oc∧ap (fun j=>j<w0.heap.size∨w.heap.size+3≤j) wr (A.map G) oa l:=by
    obtain⟨oa,ol,oc,hov⟩:∃oa ol oc,ov=C oa ol oc:=by
     rcases HOWN.out.2 with⟨e,_⟩ | ⟨g,cap,cur,e,_⟩
     ·exact⟨_,_,_,e⟩
     ·exact⟨_,_,_,e⟩
    subst hov
    have hr:=HOWN.out
    rw[←HXS.out] at hr
    obtain⟨v1,v2,v3⟩:=dI (n:=0) (A:=fun j=>j<w0.heap.size∨w.heap.size+3≤j) hr (fun g hg=>.inr (by omega)) (hpr.mono fun p x _ _ hp=>hp.kept (K _) fun j hj _=>⟨hj.1,rfl⟩)
    have e:ol=l:=by rw[v1,List.length_map,←HLEN.out]
    rw[e] at v2 v3
    exact⟨oa,oc,by rw[e],v2,v3⟩
   subst hov
   obtain⟨TS,hTS⟩:∃z,z=A.map G:=⟨_,rfl⟩
   rw[←hTS] at hLA
   have HTS:=aa hTS
   have HCS:Hid (∀t ∈ TS,Ck 6 t):=fun t ht=>by
    rw[hTS] at ht
    obtain⟨y,hy,rfl⟩:=List.mem_map.1 ht
    exact HCW.out y hy
   have hVb:Below wr.heap.size wr ((wr.alloc (I #[F D 0,F D 2,F D 1] 3)).alloc (I #[F D 0,F D 2,F D 1] 3)):=((J _ _).alloc (K _) _).alloc (by simp) _
   have HV13:Hid (((wr.alloc (I #[F D 0,F D 2,F D 1] 3)).alloc (I #[F D 0,F D 2,F D 1] 3)).heap[wr.heap.size]? = some (I #[F D 0,F D 2,F D 1] 3 (0,0))):=(Below.heap_alloc (wr.alloc (I #[F D 0,F D 2,F D 1] 3)) (I #[F D 0,F D 2,F D 1] 3) wr.heap.size (by simp)).trans (ae wr (I #[F D 0,F D 2,F D 1] 3))
   have HV14:=aa (ay wr (I #[F D 0,F D 2,F D 1] 3) (I #[F D 0,F D 2,F D 1] 3))
   have HZV:Hid (((wr.alloc (I #[F D 0,F D 2,F D 1] 3)).alloc (I #[F D 0,F D 2,F D 1] 3)).heap.size=wr.heap.size+2):=by show _=_;simp
   have HBV:=aa (hbw.trans (hVb.mono (by have:=hbw.size;rw[HZ.out] at this;exact this)))
   have HWV:=aa (af hw0 hVb)
   have HLV:=aa (hLA.below hVb)
   have hzwr:w.heap.size+3≤wr.heap.size:=by have:=hbw.size;rw[HZ.out] at this;exact this
   have HLC:=aa hlc
   clear hVb hLA hpr hA hTS hbw hw0 hw00 HOWN HPR hlc
   go_upto_region 22 with fail
   generalize (wr.alloc (I #[F D 0,F D 2,F D 1] 3)).alloc (I #[F D 0,F D 2,F D 1] 3)=V at HV13 HV14 HZV HBV HWV HLV ⊢
   have c5:=ac (HT1.out V HBV.out) 5
   simp at c5
   have z5:w.heap.size+1<V.heap.size:=lt_block' (HT1.out V HBV.out)
   have hV3:w.heap.size+3≤V.heap.size:=by have:=HZV.out;omega
   have hm0:(nm.toList == [43])=false:=ak (j:=0) HO.out rfl (by decide)
   have hm1:(nm.toList == [45])=false:=ak (j:=1) HO.out rfl (by decide)
   have hm2:(nm.toList == [42])=false:=ak (j:=2) HO.out rfl (by decide)
   have hm3:(nm.toList == [61])=false:=ak (j:=3) HO.out rfl (by decide)
   have hm4:(nm.toList == [60])=false:=ak (j:=4) HO.out rfl (by decide)
   have hm5:(nm.toList == [60,61])=false:=ak (j:=5) HO.out rfl (by decide)
   have hm6:(nm.toList == [110,111,116])=false:=ak (j:=6) HO.out rfl (by decide)
   have hm7:(nm.toList == [111,114])=false:=ak (j:=7) HO.out rfl (by decide)
   have hm8:(nm.toList == [97,110,100])=false:=ak (j:=8) HO.out rfl (by decide)
   have hm10:(nm.toList == [110,117,108,108])=false:=ak (j:=10) HO.out rfl (by decide)
   have hm9:(nm.toList == [105,110])=false:=ak (j:=9) HO.out rfl (by decide)
   have hm11:(nm.toList == [115,105,122,101])=false:=ak (j:=11) HO.out rfl (by decide)
   have hm12:(nm.toList == [104,101,97,100])=false:=ak (j:=12) HO.out rfl (by decide)
   have hm13:(nm.toList == [99,111,97,108,101,115,99,101])=false:=ak (j:=13) HO.out rfl (by decide)
   have hm14:(nm.toList == [108,105,115,116])=false:=ak (j:=14) HO.out rfl (by decide)
   have hm15:(nm.toList == [105,100])=false:=ak (j:=15) HO.out rfl (by decide)
   have hm16:(nm.toList == [116,121,112,101])=true:=b9 HO.out rfl
   have hl2:l=1:=by
    have h:=HTK.out
    have h2:=HLEN.out
    rw[show an 16=1 from by decide] at h
    omega
   obtain⟨b,off,k0,n0,s0,L0,a0,l0,c0,ha,hAb,hbl,hd0,x0,x1,x2,x3,hlc0,hs0,hL0⟩:=HLV.out.at (i:=0) (by omega)
   subst ha
   rw[Nat.zero_mul,Nat.add_zero] at x0 x1 x2 x3
   have hb2:b≠w.heap.size+2:=by have h1:=HSZ.out;rcases hAb with h | h<;>omega
   have HTL:Hid (TS = [.node k0 n0 s0 L0]):=by
    have e0:TS = .node k0 n0 s0 L0::TS.drop 1:=by simpa using hd0
    have e3:TS.drop 1 = []:=List.drop_eq_nil_of_le (by have:=HLV.out.len.1;omega)
    rw[e3] at e0
    exact e0
   have HC0:Hid (Ck 6 (.node k0 n0 s0 L0)):=HCS.out _ (by rw[HTL.out];exact List.mem_cons_self ..)
   have HL0:=aa hL0
   have HC:=aa (show l0≤c0∧s0.size≤9223372036854775807 from⟨hlc0,hs0⟩)
   clear hd0 hL0 hlc0 hs0
   have hn0:n0=id:=by
    have h:=HTL.out
    rw[HTS.out,HID.out] at h
    injection h with h _
    unfold eL at h
    injection h with h1 h2 h3 h4
    exact h2.symm
   subst hl2 hn0
   have hV0:Below w0.heap.size w0 V:=HW.out.trans (HWV.out.mono HSZ.out)
   obtain⟨i1,ed1,hi1,hd1⟩:∃(i1:Nat) (ed1:Ed),E[i1]? = some ed1∧ed1.id=n0:=by
    obtain⟨ed,hm,he⟩:=List.mem_map.1 HIN.out
    obtain⟨i,hi⟩:=List.getElem?_of_mem hm
    exact⟨i,ed,hi,he⟩
   obtain⟨eb,eof,hea,heb,hec⟩:=HEE.out.2.2 (by rw[HEE.out.1];have:=(List.getElem?_eq_some_iff.1 hi1).1;omega)
   obtain⟨eo,heo⟩:∃z,z=eof+i1*5:=⟨_,rfl⟩
   have htw:w0.cell? ⟨eb,eo+3,none⟩=some (H typ):=by
    rw[heo,←HTY.out ed1 (List.mem_of_getElem? hi1) hd1]
    exact(hec i1 ed1 hi1).2.2.2.2.1
   have hebV:eb<V.heap.size:=Nat.lt_of_lt_of_le heb hV0.size
   have heb2:eb≠w.heap.size+2:=by have:=HSZ.out;omega
   have HEA:Hid (∀u,Below V.heap.size V u→Calls Tryz.prog 7 #[L #[C na nl nc,C ea el ec,F D next],F D n0] u fun e w'=>(e=M (N (some ⟨eb,eo,none⟩)))∧Below u.heap.size u w'):=fun u ku=>by
    refine(fA E na nl nc ea el ec next n0 u (HEE.out.below (af hV0 ku))).mono ?_
    rintro e w' ⟨hend,hb⟩
    rcases hend with⟨hno,rfl⟩ | ⟨i,x,b',off',ha',hi,hid,rfl⟩
    ·exact absurd HIN.out hno
    ·rw[hea] at ha'
     injection ha' with ha'
     injection ha' with q1 q2
     subst q1 q2
     have:=HUN.out i i1 x ed1 hi hi1 (hid.trans hd1.symm)
     subst this
     exact⟨by rw[heo],hb⟩
   go_upto_region 82 with fail
   clear c5 z5
   have hgb:=HG1.out V HBV.out
   obtain⟨g0,g1,g2⟩:=cj hgb
   simp at g0 g1 g2
   have hgs:w.heap.size<V.heap.size:=lt_block' hgb
   have hbV:b<V.heap.size:=hbl
   have D0:Below V.heap.size V V.drew:=(J _ _).drew
   have ht0:V.cell? ⟨eb,eo+3,none⟩=some (H typ):=(hV0.cell (p:=⟨eb,eo+3,none⟩) heb).trans htw
   have HS:Hid (∀u,Below V.heap.size V u→((u.cell? ⟨w.heap.size,0,none⟩=some (C na nl nc)∧u.cell? ⟨w.heap.size,1,none⟩=some (C ea el ec)∧u.cell? ⟨w.heap.size,2,none⟩=some (F D next))∧u.cell? ⟨b,off+1,none⟩=some (F D n0)∧u.cell? ⟨eb,eo+3,none⟩=some (H typ))):=fun u ku=>by
    have c1':=fun o=>ku.cell (p:=⟨w.heap.size,o,none⟩) hgs
    exact⟨⟨(c1' _).trans g0,(c1' _).trans g1,(c1' _).trans g2⟩,(ku.cell (p:=⟨b,off+1,none⟩) hbV).trans x1,(ku.cell (p:=⟨eb,eo+3,none⟩) hebV).trans ht0⟩
   have HRB:Hid (∀u,Below V.heap.size V u→u.heap[w.heap.size+2]? = some (I #[F D 0,F D 0,H ⟨#[]⟩,C none 0 0] 30 (0,0))):=fun u ku=>HR1.out u (HBV.out.trans (ku.mono (by omega)))
   have HST:Hid (∀u,Below V.heap.size V u→∀v0 v1 v2 v3:Value,((((((u.setCell ⟨w.heap.size+2,0,none⟩ v0).setCell ⟨w.heap.size+2,1,none⟩ v1).setCell ⟨w.heap.size+2,2,none⟩ v2).setCell ⟨w.heap.size+2,3,none⟩ v3).cell? ⟨w.heap.size,0,none⟩=some (C na nl nc)∧((((u.setCell ⟨w.heap.size+2,0,none⟩ v0).setCell ⟨w.heap.size+2,1,none⟩ v1).setCell ⟨w.heap.size+2,2,none⟩ v2).setCell ⟨w.heap.size+2,3,none⟩ v3).cell? ⟨w.heap.size,1,none⟩=some (C ea el ec)∧((((u.setCell ⟨w.heap.size+2,0,none⟩ v0).setCell ⟨w.heap.size+2,1,none⟩ v1).setCell ⟨w.heap.size+2,2,none⟩ v2).setCell ⟨w.heap.size+2,3,none⟩ v3).cell? ⟨w.heap.size,2,none⟩=some (F D next))∧((((u.setCell ⟨w.heap.size+2,0,none⟩ v0).setCell ⟨w.heap.size+2,1,none⟩ v1).setCell ⟨w.heap.size+2,2,none⟩ v2).setCell ⟨w.heap.size+2,3,none⟩ v3).cell? ⟨b,off+1,none⟩=some (F D n0)∧((((u.setCell ⟨w.heap.size+2,0,none⟩ v0).setCell ⟨w.heap.size+2,1,none⟩ v1).setCell ⟨w.heap.size+2,2,none⟩ v2).setCell ⟨w.heap.size+2,3,none⟩ v3).cell? ⟨eb,eo+3,none⟩=some (H typ))):=fun u ku v0 v1 v2 v3=>by
    obtain⟨⟨q0,q1,q2⟩,q3,q4⟩:=HS.out u ku
    exact⟨⟨(bE (by omega) v0 v1 v2 v3 _).trans q0,(bE (by omega) v0 v1 v2 v3 _).trans q1,(bE (by omega) v0 v1 v2 v3 _).trans q2⟩,(bE hb2 v0 v1 v2 v3 _).trans q3,(bE heb2 v0 v1 v2 v3 _).trans q4⟩
   clear hea hec hi1 hd1 htw heo
   go_region_held3 (fun W'=>((W'.cell? ⟨w.heap.size,0,none⟩=some (C na nl nc)∧W'.cell? ⟨w.heap.size,1,none⟩=some (C ea el ec)∧W'.cell? ⟨w.heap.size,2,none⟩=some (F D next))∧W'.cell? ⟨b,off+1,none⟩=some (F D n0)∧W'.cell? ⟨eb,eo+3,none⟩=some (H typ)))
    (first
      | with_reducible exact HS.out _ kk1
      | with_reducible exact HS.out _ D0
      | with_reducible exact HST.out _ kk1 _ _ _ _
      | exact⟨⟨g0,g1,g2⟩,x1,ht0⟩
      | go_keep)
    (first
      | (go_at_call 7;go_fit (HEA.out V.drew D0);rintro e u1 ⟨rfl,h1⟩;have kk1:Below V.heap.size V u1:=D0.trans h1;have heu:eb<u1.heap.size:=Nat.lt_of_lt_of_le hebV kk1.size;have hb1:=HRB.out u1 kk1;have r0:=ac hb1 0;have r1:=ac hb1 1;have r2:=ac hb1 2;have r3:=ac hb1 3;have f0:=aj hb1 0;have f1:=aj hb1 1;have f2:=aj hb1 2;have f3:=aj hb1 3;simp at r0 r1 r2 r3;have hsq:w.heap.size+2<u1.heap.size:=lt_block' hb1))
   all_goals
    go_wp2_with fail
    obtain⟨Y,eY,⟨t0,t1,t2,t3⟩,hbb,hoth,hsz⟩:=ba (w:=w) (HRB.out u1 kk1) rfl (af HWV.out kk1) (by omega) (F D 3) (F D 0) (H typ) (C none 0 0)
    rw[eY]
    exact bodyPost_ret (v:=vC (3) (0) typ none 0 0) (by simp[results,Tryz.results12,go_sem,t0,t1,t2,t3]) rfl ⟨aL.flat _ _ _ hts,hbb⟩
theorem te {env:ByteArray→Option Th} {fa:ByteArray→Option Int} (w0 w:World) (na:Option Addr) (nl nc:Nat) (ea:Option Addr) (el ec:Nat) (next:Int) (vk vn:Int) (vs:ByteArray) (va:Option Addr) (vl vc:Nat) (nm:ByteArray) (a:Option Addr) (l c:Nat) (Lv:List T) (A:List Tm) (m:Nat) (hw:Below w0.heap.size w0 w) (ht:bd w0 1 vk vn vs va vl vc nm a l c Lv A):Calls Tryz.prog 12 #[L #[C na nl nc,C ea el ec,F D next],.map (some m),L #[F D 1,F D vk,F D vn,H vs,C va vl vc,H nm,C a l c]] w fun e w'=>aL (fun i=>i<w0.heap.size) w w' (.node vk vn vs Lv) e∧Below w.heap.size w w':=by
 have HTA:=aa ht
 have HW:=aa hw
 clear ht hw
 have hb3:Below w.heap.size w (((w.alloc (I #[C na nl nc,C ea el ec,F D next] 25)).alloc (I #[F D 1,F D vk,F D vn,H vs,C va vl vc,H nm,C a l c] 33)).alloc (I #[F D 0,F D 0,H ⟨#[]⟩,C none 0 0] 30)):=(((J _ _).alloc (K _) _).alloc (by simp) _).alloc (by simp;omega) _
 have hz:(((w.alloc (I #[C na nl nc,C ea el ec,F D next] 25)).alloc (I #[F D 1,F D vk,F D vn,H vs,C va vl vc,H nm,C a l c] 33)).alloc (I #[F D 0,F D 0,H ⟨#[]⟩,C none 0 0] 30)).heap.size=w.heap.size+3:=by simp
 have h0:(((w.alloc (I #[C na nl nc,C ea el ec,F D next] 25)).alloc (I #[F D 1,F D vk,F D vn,H vs,C va vl vc,H nm,C a l c] 33)).alloc (I #[F D 0,F D 0,H ⟨#[]⟩,C none 0 0] 30)).heap[w.heap.size]? = some (I #[C na nl nc,C ea el ec,F D next] 25 (0,0)):=(aK w (I #[C na nl nc,C ea el ec,F D next] 25) (I #[F D 1,F D vk,F D vn,H vs,C va vl vc,H nm,C a l c] 33) (I #[F D 0,F D 0,H ⟨#[]⟩,C none 0 0] 30)).1
 have h1:(((w.alloc (I #[C na nl nc,C ea el ec,F D next] 25)).alloc (I #[F D 1,F D vk,F D vn,H vs,C va vl vc,H nm,C a l c] 33)).alloc (I #[F D 0,F D 0,H ⟨#[]⟩,C none 0 0] 30)).heap[w.heap.size+1]? = some (I #[F D 1,F D vk,F D vn,H vs,C va vl vc,H nm,C a l c] 33 (0,0)):=(aK w (I #[C na nl nc,C ea el ec,F D next] 25) (I #[F D 1,F D vk,F D vn,H vs,C va vl vc,H nm,C a l c] 33) (I #[F D 0,F D 0,H ⟨#[]⟩,C none 0 0] 30)).2.1
 have h2:(((w.alloc (I #[C na nl nc,C ea el ec,F D next] 25)).alloc (I #[F D 1,F D vk,F D vn,H vs,C va vl vc,H nm,C a l c] 33)).alloc (I #[F D 0,F D 0,H ⟨#[]⟩,C none 0 0] 30)).heap[w.heap.size+2]? = some (I #[F D 0,F D 0,H ⟨#[]⟩,C none 0 0] 30 (0,0)):=(aK w (I #[C na nl nc,C ea el ec,F D next] 25) (I #[F D 1,F D vk,F D vn,H vs,C va vl vc,H nm,C a l c] 33) (I #[F D 0,F D 0,H ⟨#[]⟩,C none 0 0] 30)).2.2
 have HB:=aa hb3
 have HZ:=aa hz
 have H0:=aa h0
 have H1:=aa h1
 have H2:=aa h2
 clear hb3 hz h0 h1 h2
 go_enter Tryz.func12,Tryz.ntmps12
 go_upto_region 1 with fail
 generalize (((w.alloc (I #[C na nl nc,C ea el ec,F D next] 25)).alloc (I #[F D 1,F D vk,F D vn,H vs,C va vl vc,H nm,C a l c] 33)).alloc (I #[F D 0,F D 0,H ⟨#[]⟩,C none 0 0] 30))=W at HB HZ H0 H1 H2 ⊢
 have hsW:w.heap.size+3=W.heap.size:=HZ.out.symm
 obtain⟨c0,c1,c2,c3,c4,c5,c6⟩:=bV H1.out
 simp at c0 c1 c2 c3 c4 c5 c6
 have z1:w.heap.size+1<W.heap.size:=by omega
 have HQ:=aa (H2.out)
 obtain⟨⟨r0,r1,r2,r3⟩,hsq⟩:=bX HQ.out
 obtain⟨f0,f1,f2,f3⟩:=aq HQ.out
 go_wp2_with fail
 obtain⟨Y,eY,⟨t0,t1,t2,t3⟩,hbb,hoth,hsz⟩:=ba (w:=w) HQ.out rfl (HB.out) (by omega) (F D vk) (F D vn) (H vs) (C va vl vc)
 rw[eY]
 exact bodyPost_ret (v:=vC (vk) (vn) vs va vl vc) (by simp[results,Tryz.results12,go_sem,t0,t1,t2,t3]) rfl ⟨⟨vk,vn,vs,va,vl,vc,Lv,rfl,rfl,HTA.out.vlc,HTA.out.vss,ap.kept (A':=fun i=>i<w0.heap.size∨w.heap.size≤i) (by have h1:=HW.out.size;have h2:=hbb.size;omega) (fun j hj hl=>⟨.inl hj,(hbb.block j (by have h1:=HW.out.size;omega)).trans (HW.out.block j hl)⟩) _ _ _ (am.old _ _ _ HTA.out.val)⟩,hbb⟩
theorem vU {env:ByteArray→Option Th} {fa:ByteArray→Option Int} (w0 w:World) (na:Option Addr) (nl nc:Nat) (ea:Option Addr) (el ec:Nat) (next:Int) (vk vn:Int) (vs:ByteArray) (va:Option Addr) (vl vc:Nat) (nm:ByteArray) (a:Option Addr) (l c:Nat) (Lv:List T) (A:List Tm) (m:Nat) (hw:Below w0.heap.size w0 w) (ht:bd w0 2 vk vn vs va vl vc nm a l c Lv A) (hn:cn w0 m fa) (hfa:∀s,fa s=(env s).map Th.id):Calls Tryz.prog 12 #[L #[C na nl nc,C ea el ec,F D next],.map (some m),L #[F D 2,F D vk,F D vn,H vs,C va vl vc,H nm,C a l c]] w fun e w'=>aL (fun i=>i<w0.heap.size) w w' (eL ((env nm).getD Th.zero).id) e∧Below w.heap.size w w':=by
 have HN:=aa hn
 have HW:=aa hw
 obtain⟨q,hq⟩:∃z,z=((env nm).getD Th.zero).id:=⟨_,rfl⟩
 have HFA:Hid ((fa nm).getD 0=q):=by
  show _=_
  rw[hfa,hq]
  cases env nm<;>rfl
 rw[←hq]
 clear ht hw hn hfa hq
 have hb3:Below w.heap.size w (((w.alloc (I #[C na nl nc,C ea el ec,F D next] 25)).alloc (I #[F D 2,F D vk,F D vn,H vs,C va vl vc,H nm,C a l c] 33)).alloc (I #[F D 0,F D 0,H ⟨#[]⟩,C none 0 0] 30)):=(((J _ _).alloc (K _) _).alloc (by simp) _).alloc (by simp;omega) _
 have hz:(((w.alloc (I #[C na nl nc,C ea el ec,F D next] 25)).alloc (I #[F D 2,F D vk,F D vn,H vs,C va vl vc,H nm,C a l c] 33)).alloc (I #[F D 0,F D 0,H ⟨#[]⟩,C none 0 0] 30)).heap.size=w.heap.size+3:=by simp
 have h0:(((w.alloc (I #[C na nl nc,C ea el ec,F D next] 25)).alloc (I #[F D 2,F D vk,F D vn,H vs,C va vl vc,H nm,C a l c] 33)).alloc (I #[F D 0,F D 0,H ⟨#[]⟩,C none 0 0] 30)).heap[w.heap.size]? = some (I #[C na nl nc,C ea el ec,F D next] 25 (0,0)):=(aK w (I #[C na nl nc,C ea el ec,F D next] 25) (I #[F D 2,F D vk,F D vn,H vs,C va vl vc,H nm,C a l c] 33) (I #[F D 0,F D 0,H ⟨#[]⟩,C none 0 0] 30)).1
 have h1:(((w.alloc (I #[C na nl nc,C ea el ec,F D next] 25)).alloc (I #[F D 2,F D vk,F D vn,H vs,C va vl vc,H nm,C a l c] 33)).alloc (I #[F D 0,F D 0,H ⟨#[]⟩,C none 0 0] 30)).heap[w.heap.size+1]? = some (I #[F D 2,F D vk,F D vn,H vs,C va vl vc,H nm,C a l c] 33 (0,0)):=(aK w (I #[C na nl nc,C ea el ec,F D next] 25) (I #[F D 2,F D vk,F D vn,H vs,C va vl vc,H nm,C a l c] 33) (I #[F D 0,F D 0,H ⟨#[]⟩,C none 0 0] 30)).2.1
 have h2:(((w.alloc (I #[C na nl nc,C ea el ec,F D next] 25)).alloc (I #[F D 2,F D vk,F D vn,H vs,C va vl vc,H nm,C a l c] 33)).alloc (I #[F D 0,F D 0,H ⟨#[]⟩,C none 0 0] 30)).heap[w.heap.size+2]? = some (I #[F D 0,F D 0,H ⟨#[]⟩,C none 0 0] 30 (0,0)):=(aK w (I #[C na nl nc,C ea el ec,F D next] 25) (I #[F D 2,F D vk,F D vn,H vs,C va vl vc,H nm,C a l c] 33) (I #[F D 0,F D 0,H ⟨#[]⟩,C none 0 0] 30)).2.2
 have HB:=aa hb3
 have HZ:=aa hz
 have H0:=aa h0
 have H1:=aa h1
 have H2:=aa h2
 clear hb3 hz h0 h1 h2
 go_enter Tryz.func12,Tryz.ntmps12
 go_upto_region 1 with fail
 generalize (((w.alloc (I #[C na nl nc,C ea el ec,F D next] 25)).alloc (I #[F D 2,F D vk,F D vn,H vs,C va vl vc,H nm,C a l c] 33)).alloc (I #[F D 0,F D 0,H ⟨#[]⟩,C none 0 0] 30))=W at HB HZ H0 H1 H2 ⊢
 have hsW:w.heap.size+3=W.heap.size:=HZ.out.symm
 obtain⟨c0,c1,c2,c3,c4,c5,c6⟩:=bV H1.out
 simp at c0 c1 c2 c3 c4 c5 c6
 have z1:w.heap.size+1<W.heap.size:=by omega
 have HQ:=aa (H2.out)
 obtain⟨⟨r0,r1,r2,r3⟩,hsq⟩:=bX HQ.out
 obtain⟨f0,f1,f2,f3⟩:=aq HQ.out
 have hlk:=(HN.out.below (HW.out.trans (HB.out.mono HW.out.size))).look nm
 rw[HFA.out] at hlk
 go_wp2_with fail
 obtain⟨Y,eY,⟨t0,t1,t2,t3⟩,hbb,hoth,hsz⟩:=ba (w:=w) HQ.out rfl (HB.out) (by omega) (F D 2) (F D q) (H ⟨#[]⟩) (C none 0 0)
 rw[eY]
 exact bodyPost_ret (v:=vC (2) (q) ⟨#[]⟩ none 0 0) (by simp[results,Tryz.results12,go_sem,t0,t1,t2,t3]) rfl ⟨aL.flat 2 q ⟨#[]⟩ (by decide),hbb⟩
end Go.Proofs.YtijjpoohhgapoaaGreatDoor

import Derived.Test.YtijjpoohhgapoaaGreatDoorVQBF
import Derived.Test.YtijjpoohhgapoaaGreatDoorVQBB
namespace Go.Proofs.YtijjpoohhgapoaaGreatDoor
open Go.RowKit
open Go.RowKit Go.MapKept
set_option linter.unusedVariables false
set_option maxHeartbeats 4000000
set_option maxRecDepth 100000
set_option linter.unusedSimpArgs false
open Value renaming slice → C, string → D, int → G, int → M, agg → O, tuple → U
open IntKind renaming i64 → F
open Obj renaming cells → H
open Nat renaming lt_of_lt_of_le → J
open List renaming toList_toArray → K
open Ending renaming returned → Q
theorem jo {w0:World} {x:Th} {P:List Pr} {pa:Option Addr} {pl pc:Nat} (nm:ByteArray) (hpp:aX w0 P pa pl) (hpr:aA (eg fI w0) P x.props) (W:World) (k:Below w0.heap.size w0 W):Calls Tryz.prog 30 #[C pa pl pc,D nm] W fun e w'=>∃rk rn rs ra rl rc,e=Q (vC rk rn rs ra rl rc)∧(∃L,cR nm x = .node rk rn rs L∧rl≤rc∧rs.size≤9223372036854775807∧ap (fun i=>i<w0.heap.size) w0 L ra rl)∧Below W.heap.size W w':=by
 refine dm (o5 P pa pl pc nm W (aX.below k hpp)) fun e w' h=>?_
 obtain⟨h,hb⟩:=h
 have hf:=iZ nm P x.props hpr
 rcases h with⟨h1,rfl⟩ | ⟨p,h1,_,rfl⟩
 ·rw[h1] at hf
  have hf:x.props.find? (fun p=>p.name.toList==nm.toList)=none:=hf
  refine⟨0,0,⟨#[]⟩,none,0,0,rfl,⟨[],?_,Nat.le_refl _,by decide,df⟩,hb⟩
  unfold cR
  rw[hf]
  rfl
 ·rw[h1] at hf
  obtain⟨y,hf,_,_,g2,g3,Lt,g4,g5⟩:=hf
  refine⟨p.k,p.n,p.s,p.a,p.l,p.c,rfl,⟨Lt,?_,g3,g2,ap.kept (Nat.le_refl _) (fun i _ hl=>⟨hl,rfl⟩) _ _ _ g5⟩,hb⟩
  unfold cR
  rw[hf]
  exact g4
def ThG (w0:World) (N:List Nd) (E:List Ed) (x:Th):Prop:=(x.edge=false∧x.id ∈ N.map Nd.id∧∀nd ∈ N,nd.id=x.id→aX w0 nd.props nd.pa nd.pl∧aA (eg fI w0) nd.props x.props)∨(x.edge=true∧x.id ∉ N.map Nd.id∧x.id ∈ E.map Ed.id∧∀ed ∈ E,ed.id=x.id→ed.typ=x.typ∧aX w0 ed.props ed.pa ed.pl∧aA (eg fI w0) ed.props x.props)
theorem td {env:ByteArray→Option Th} {fa:ByteArray→Option Int} (w0 w:World) (na:Option Addr) (nl nc:Nat) (ea:Option Addr) (el ec:Nat) (next:Int) (vk vn:Int) (vs:ByteArray) (va:Option Addr) (vl vc:Nat) (nm:ByteArray) (a:Option Addr) (l c:Nat) (Lv:List T) (A:List Tm) (m:Nat) (hw:Below w0.heap.size w0 w) (ht:bd w0 3 vk vn vs va vl vc nm a l c Lv A) (N:List Nd) (E:List Ed) (hNN:bF w0 N na nl) (hEE:bO w0 E ea el) (hn:cn w0 m fa) (hfa:∀s,fa s=(env s).map Th.id) (x:Tm) (hA:A = [x]) (y:Th) (hy:env x.name=some y) (hG:ThG w0 N E y):Calls Tryz.prog 12 #[O #[C na nl nc,C ea el ec,G F next],.map (some m),O #[G F 3,G F vk,G F vn,D vs,C va vl vc,D nm,C a l c]] w fun e w'=>aL (fun i=>i<w0.heap.size) w w' (kH env (cR nm) A) e∧Below w.heap.size w w':=by
 obtain⟨b,off,xk,xvk,xvn,xvs,xva,xvl,xvc,xnm,xa,xl,xc,Lv',A',ha,hbl,hd',⟨e0,e1,e2,e3,e4,e5,e6⟩,hta⟩:=ht.args.at (i:=0) (by rw[ht.args.len.1,hA];exact Nat.one_pos)
 rw[Nat.zero_mul,Nat.add_zero] at e5
 have hl1:l=1:=by rw[ht.args.len.1,hA];rfl
 have hx:x = .node xk (.node xvk xvn xvs Lv') xnm A':=by
  rw[hA] at hd'
  exact(List.cons.inj hd').1
 subst ha hl1
 have HVE:Hid (kH env (cR nm) A=cR nm y):=by
  show _=_
  rw[hA]
  show cR nm ((env x.name).getD Th.zero)=_
  rw[hy]
  rfl
 have HFA:Hid ((fa xnm).getD 0=y.id):=by
  show _=_
  have h1:env xnm=some y:=by rw[hx] at hy;exact hy
  rw[hfa,h1]
  rfl
 have HN:=aa hn
 have HW:=aa hw
 have HNN:=aa hNN
 have HEE:=aa hEE
 have HE5:=aa e5
 have HBL:=aa hbl
 clear e0 e1 e2 e3 e4 e5 e6 hta hd' hx hn hw hNN hEE hfa hy ht hbl hA
 have hb3:Below w.heap.size w (((w.alloc (H #[C na nl nc,C ea el ec,G F next] 25)).alloc (H #[G F 3,G F vk,G F vn,D vs,C va vl vc,D nm,C (some ⟨b,off,none⟩) 1 c] 33)).alloc (H #[G F 0,G F 0,D ⟨#[]⟩,C none 0 0] 30)):=(((Below.refl _ _).alloc (Nat.le_refl _) _).alloc (by simp) _).alloc (by simp;omega) _
 have hz:(((w.alloc (H #[C na nl nc,C ea el ec,G F next] 25)).alloc (H #[G F 3,G F vk,G F vn,D vs,C va vl vc,D nm,C (some ⟨b,off,none⟩) 1 c] 33)).alloc (H #[G F 0,G F 0,D ⟨#[]⟩,C none 0 0] 30)).heap.size=w.heap.size+3:=by simp
 have h0:(((w.alloc (H #[C na nl nc,C ea el ec,G F next] 25)).alloc (H #[G F 3,G F vk,G F vn,D vs,C va vl vc,D nm,C (some ⟨b,off,none⟩) 1 c] 33)).alloc (H #[G F 0,G F 0,D ⟨#[]⟩,C none 0 0] 30)).heap[w.heap.size]? = some (H #[C na nl nc,C ea el ec,G F next] 25 (0,0)):=(aK w (H #[C na nl nc,C ea el ec,G F next] 25) (H #[G F 3,G F vk,G F vn,D vs,C va vl vc,D nm,C (some ⟨b,off,none⟩) 1 c] 33) (H #[G F 0,G F 0,D ⟨#[]⟩,C none 0 0] 30)).1
 have h1:(((w.alloc (H #[C na nl nc,C ea el ec,G F next] 25)).alloc (H #[G F 3,G F vk,G F vn,D vs,C va vl vc,D nm,C (some ⟨b,off,none⟩) 1 c] 33)).alloc (H #[G F 0,G F 0,D ⟨#[]⟩,C none 0 0] 30)).heap[w.heap.size+1]? = some (H #[G F 3,G F vk,G F vn,D vs,C va vl vc,D nm,C (some ⟨b,off,none⟩) 1 c] 33 (0,0)):=(aK w (H #[C na nl nc,C ea el ec,G F next] 25) (H #[G F 3,G F vk,G F vn,D vs,C va vl vc,D nm,C (some ⟨b,off,none⟩) 1 c] 33) (H #[G F 0,G F 0,D ⟨#[]⟩,C none 0 0] 30)).2.1
 have h2:(((w.alloc (H #[C na nl nc,C ea el ec,G F next] 25)).alloc (H #[G F 3,G F vk,G F vn,D vs,C va vl vc,D nm,C (some ⟨b,off,none⟩) 1 c] 33)).alloc (H #[G F 0,G F 0,D ⟨#[]⟩,C none 0 0] 30)).heap[w.heap.size+2]? = some (H #[G F 0,G F 0,D ⟨#[]⟩,C none 0 0] 30 (0,0)):=(aK w (H #[C na nl nc,C ea el ec,G F next] 25) (H #[G F 3,G F vk,G F vn,D vs,C va vl vc,D nm,C (some ⟨b,off,none⟩) 1 c] 33) (H #[G F 0,G F 0,D ⟨#[]⟩,C none 0 0] 30)).2.2
 have HB:=aa hb3
 have HZ:=aa hz
 have H0:=aa h0
 have H1:=aa h1
 have H2:=aa h2
 clear hb3 hz h0 h1 h2
 go_enter Tryz.func12,Tryz.ntmps12
 go_upto_region 1 with fail
 generalize (((w.alloc (H #[C na nl nc,C ea el ec,G F next] 25)).alloc (H #[G F 3,G F vk,G F vn,D vs,C va vl vc,D nm,C (some ⟨b,off,none⟩) 1 c] 33)).alloc (H #[G F 0,G F 0,D ⟨#[]⟩,C none 0 0] 30))=W at HB HZ H0 H1 H2 ⊢
 have hsW:w.heap.size+3=W.heap.size:=HZ.out.symm
 obtain⟨c0,c1,c2,c3,c4,c5,c6⟩:=bV H1.out
 simp at c0 c1 c2 c3 c4 c5 c6
 have z1:w.heap.size+1<W.heap.size:=by omega
 have HG1:Hid (∀u,Below (w.heap.size+3) W u→u.heap[w.heap.size]? = some (H #[C na nl nc,C ea el ec,G F next] 25 (0,0))):=fun u k=>(k.block w.heap.size (by omega)).trans H0.out
 have HT1:Hid (∀u,Below (w.heap.size+3) W u→u.heap[w.heap.size+1]? = some (H #[G F 3,G F vk,G F vn,D vs,C va vl vc,D nm,C (some ⟨b,off,none⟩) 1 c] 33 (0,0))):=fun u k=>(k.block (w.heap.size+1) (by omega)).trans H1.out
 have HR1:Hid (∀u,Below (w.heap.size+3) W u→u.heap[w.heap.size+2]? = some (H #[G F 0,G F 0,D ⟨#[]⟩,C none 0 0] 30 (0,0))):=fun u k=>(k.block (w.heap.size+2) (by omega)).trans H2.out
 have hW0:Below w0.heap.size w0 W:=HW.out.trans (HB.out.mono HW.out.size)
 have d5:W.cell? ⟨b,off+5,none⟩=some (D xnm):=(hW0.cell (p:=⟨b,off+5,none⟩) HBL.out).trans HE5.out
 have hbW:b<W.heap.size:=J HBL.out hW0.size
 have hlk:=(HN.out.below hW0).look xnm
 rw[HFA.out] at hlk
 obtain⟨v0,v1,v2⟩:=cj H0.out
 simp at v0 v1 v2
 have hgs:w.heap.size<W.heap.size:=by omega
 have HNA:=aa (fs N na nl nc ea el ec next y.id W (HNN.out.below hW0))
 go_wp2_with fail
 refine HNA.out.mono ?_
 rintro e u1 ⟨hend,k1⟩
 have HBV1:Hid (Below (w.heap.size+3) W u1):=k1.mono (by omega)
 have HWV1:=aa (af HB.out k1)
 have HV01:Hid (Below w0.heap.size w0 u1):=HW.out.trans (HWV1.out.mono HW.out.size)
 have hu1:w.heap.size+3≤u1.heap.size:=by have:=k1.size;omega
 clear c0 c1 c2 c3 c4 c5 c6 d5 hbW hlk v0 v1 v2 k1
 rcases hG with⟨hed,hin,hnd⟩ | ⟨hed,hni,hin,hnd⟩
 ·rcases hend with⟨hno,rfl⟩ | ⟨i,nd,nb,noff,hna,hi,hid,rfl⟩
  ·exact absurd hin hno
  ·obtain⟨hpp,hpr⟩:=hnd nd (List.mem_of_getElem? hi) hid
   obtain⟨no,hno⟩:∃z,z=noff+i*3:=⟨_,rfl⟩
   have HPR:Hid (∀u,Below w0.heap.size w0 u→_):=fun u ku=>jo (pc:=nd.pc) nm hpp hpr u ku
   obtain⟨nbl,pcw⟩:nb<w0.heap.size∧w0.cell? ⟨nb,no+2,none⟩=some (C nd.pa nd.pl nd.pc):=by
    obtain⟨b',off',ha',hb',hc'⟩:=HNN.out.2.2 (by rw[HNN.out.1];have:=(List.getElem?_eq_some_iff.1 hi).1;omega)
    rw[hna] at ha'
    injection ha' with ha'
    injection ha' with q1 q2
    subst q1 q2
    rw[hno]
    exact⟨hb',(hc' i nd hi).2.2⟩
   rw[←hno]
   have pc:=(HV01.out.cell (p:=⟨nb,no+2,none⟩) nbl).trans pcw
   have hnb1:nb<u1.heap.size:=J nbl HV01.out.size
   have hnb2:nb<w.heap.size:=J nbl HW.out.size
   have c5:=ac (HT1.out u1 HBV1.out) 5
   simp at c5
   have z5:w.heap.size+1<u1.heap.size:=by omega
   have HBV:=HBV1
   have HWV:=HWV1
   have HV0:=HV01
   clear hpp hpr hna hi hid hnd hin pcw hno
   go_upto_region 9 with fail
   have D0:Below u1.heap.size u1 u1.drew:=(Below.refl _ _).drew
   have HS:Hid (∀u,Below u1.heap.size u1 u→(u.cell? ⟨nb,no+2,none⟩=some (C nd.pa nd.pl nd.pc)∧u.cell? ⟨w.heap.size+1,5,none⟩=some (D nm))):=fun u ku=>⟨(ku.cell (p:=⟨nb,no+2,none⟩) hnb1).trans pc,(ku.cell (p:=⟨w.heap.size+1,5,none⟩) z5).trans c5⟩
   have HRB:Hid (∀u,Below u1.heap.size u1 u→u.heap[w.heap.size+2]? = some (H #[G F 0,G F 0,D ⟨#[]⟩,C none 0 0] 30 (0,0))):=fun u ku=>(ku.block (w.heap.size+2) (by omega)).trans (HR1.out u1 HBV.out)
   have HST:Hid (∀u,Below u1.heap.size u1 u→∀v0 v1 v2 v3:Value,(((((u.setCell ⟨w.heap.size+2,0,none⟩ v0).setCell ⟨w.heap.size+2,1,none⟩ v1).setCell ⟨w.heap.size+2,2,none⟩ v2).setCell ⟨w.heap.size+2,3,none⟩ v3).cell? ⟨nb,no+2,none⟩=some (C nd.pa nd.pl nd.pc)∧((((u.setCell ⟨w.heap.size+2,0,none⟩ v0).setCell ⟨w.heap.size+2,1,none⟩ v1).setCell ⟨w.heap.size+2,2,none⟩ v2).setCell ⟨w.heap.size+2,3,none⟩ v3).cell? ⟨w.heap.size+1,5,none⟩=some (D nm))):=fun u ku v0 v1 v2 v3=>⟨(bE (by omega) v0 v1 v2 v3 _).trans (HS.out u ku).1,(bE (by omega) v0 v1 v2 v3 _).trans (HS.out u ku).2⟩
   go_region_held3 (fun W'=>(W'.cell? ⟨nb,no+2,none⟩=some (C nd.pa nd.pl nd.pc)∧W'.cell? ⟨w.heap.size+1,5,none⟩=some (D nm)))
    (first
      | with_reducible exact HS.out _ kk1
      | with_reducible exact HS.out _ D0
      | with_reducible exact HST.out _ kk1 _ _ _ _
      | exact⟨pc,c5⟩
      | go_keep)
    (first
      | (go_at_call 30;go_fit (HPR.out u1.drew (af HV0.out D0));rintro e uu ⟨rk,rn,rs,ra,rl,rc,rfl,⟨Lr,hre,hrl,hrs,hrL⟩,h1⟩;have kk1:Below u1.heap.size u1 uu:=D0.trans h1;have hb1:=HRB.out uu kk1;have r0:=ac hb1 0;have r1:=ac hb1 1;have r2:=ac hb1 2;have r3:=ac hb1 3;have f0:=aj hb1 0;have f1:=aj hb1 1;have f2:=aj hb1 2;have f3:=aj hb1 3;simp at r0 r1 r2 r3;have hsq:w.heap.size+2<uu.heap.size:=lt_block' hb1))
   all_goals
    go_wp2_with fail
    obtain⟨Y,eY,⟨t0,t1,t2,t3⟩,hbb,hoth,hsz⟩:=ba (w:=w) (HRB.out uu kk1) rfl (af HWV.out kk1) (by omega) (G F rk) (G F rn) (D rs) (C ra rl rc)
    rw[eY]
    exact bodyPost_ret (v:=vC (rk) (rn) rs ra rl rc) (by simp[results,Tryz.results12,go_sem,t0,t1,t2,t3]) rfl ⟨⟨rk,rn,rs,ra,rl,rc,Lr,rfl,HVE.out.trans hre,hrl,hrs,ap.kept (A':=fun i=>i<w0.heap.size∨w.heap.size≤i) (by have h1:=HW.out.size;have h2:=hbb.size;omega) (fun j hj hjl=>⟨.inl hj,(hbb.block j (by have h1:=HW.out.size;omega)).trans (HW.out.block j hjl)⟩) _ _ _ hrL⟩,hbb⟩
 ·rcases hend with⟨_,rfl⟩ | ⟨i,nd,nb,noff,hna,hi,hid,rfl⟩
  ·have HEA:=aa (fA E na nl nc ea el ec next y.id u1 (HEE.out.below HV01.out))
   have hg1:=HG1.out u1 HBV1.out
   obtain⟨v0,v1,v2⟩:=cj hg1
   simp at v0 v1 v2
   have hgs1:w.heap.size<u1.heap.size:=lt_block' hg1
   clear hg1
   go_wp2_with fail
   refine HEA.out.mono ?_
   rintro e u4 ⟨hend,k4⟩
   have HBV:Hid (Below (w.heap.size+3) W u4):=HBV1.out.trans (k4.mono hu1)
   have HWV:=aa (af HWV1.out k4)
   have HV0:Hid (Below w0.heap.size w0 u4):=HW.out.trans (HWV.out.mono HW.out.size)
   have hu4:w.heap.size+3≤u4.heap.size:=Nat.le_trans hu1 k4.size
   clear v0 v1 v2 k4
   rcases hend with⟨hno,rfl⟩ | ⟨i,ed,nb,noff,hna,hi,hid,rfl⟩
   ·exact absurd hin hno
   ·obtain⟨-,hpp,hpr⟩:=hnd ed (List.mem_of_getElem? hi) hid
    obtain⟨no,hno⟩:∃z,z=noff+i*5:=⟨_,rfl⟩
    have HPR:Hid (∀u,Below w0.heap.size w0 u→_):=fun u ku=>jo (pc:=ed.pc) nm hpp hpr u ku
    obtain⟨nbl,pcw⟩:nb<w0.heap.size∧w0.cell? ⟨nb,no+4,none⟩=some (C ed.pa ed.pl ed.pc):=by
     obtain⟨b',off',ha',hb',hc'⟩:=HEE.out.2.2 (by rw[HEE.out.1];have:=(List.getElem?_eq_some_iff.1 hi).1;omega)
     rw[hna] at ha'
     injection ha' with ha'
     injection ha' with q1 q2
     subst q1 q2
     rw[hno]
     exact⟨hb',(hc' i ed hi).2.2.2.2.2⟩
    rw[←hno]
    have pc:=(HV0.out.cell (p:=⟨nb,no+4,none⟩) nbl).trans pcw
    have hnb1:nb<u4.heap.size:=J nbl HV0.out.size
    have hnb2:nb<w.heap.size:=J nbl HW.out.size
    have c5:=ac (HT1.out u4 HBV.out) 5
    simp at c5
    have z5:w.heap.size+1<u4.heap.size:=by omega
    clear hpp hpr hna hi hid hnd hin pcw hno hni
    go_upto_region 12 with fail
    have D0:Below u4.heap.size u4 u4.drew:=(Below.refl _ _).drew
    have HS:Hid (∀u,Below u4.heap.size u4 u→(u.cell? ⟨nb,no+4,none⟩=some (C ed.pa ed.pl ed.pc)∧u.cell? ⟨w.heap.size+1,5,none⟩=some (D nm))):=fun u ku=>⟨(ku.cell (p:=⟨nb,no+4,none⟩) hnb1).trans pc,(ku.cell (p:=⟨w.heap.size+1,5,none⟩) z5).trans c5⟩
    have HRB:Hid (∀u,Below u4.heap.size u4 u→u.heap[w.heap.size+2]? = some (H #[G F 0,G F 0,D ⟨#[]⟩,C none 0 0] 30 (0,0))):=fun u ku=>(ku.block (w.heap.size+2) (by omega)).trans (HR1.out u4 HBV.out)
    have HST:Hid (∀u,Below u4.heap.size u4 u→∀v0 v1 v2 v3:Value,(((((u.setCell ⟨w.heap.size+2,0,none⟩ v0).setCell ⟨w.heap.size+2,1,none⟩ v1).setCell ⟨w.heap.size+2,2,none⟩ v2).setCell ⟨w.heap.size+2,3,none⟩ v3).cell? ⟨nb,no+4,none⟩=some (C ed.pa ed.pl ed.pc)∧((((u.setCell ⟨w.heap.size+2,0,none⟩ v0).setCell ⟨w.heap.size+2,1,none⟩ v1).setCell ⟨w.heap.size+2,2,none⟩ v2).setCell ⟨w.heap.size+2,3,none⟩ v3).cell? ⟨w.heap.size+1,5,none⟩=some (D nm))):=fun u ku v0 v1 v2 v3=>⟨(bE (by omega) v0 v1 v2 v3 _).trans (HS.out u ku).1,(bE (by omega) v0 v1 v2 v3 _).trans (HS.out u ku).2⟩
    go_region_held3 (fun W'=>(W'.cell? ⟨nb,no+4,none⟩=some (C ed.pa ed.pl ed.pc)∧W'.cell? ⟨w.heap.size+1,5,none⟩=some (D nm)))
     (first
       | with_reducible exact HS.out _ kk1
       | with_reducible exact HS.out _ D0
       | with_reducible exact HST.out _ kk1 _ _ _ _
       | exact⟨pc,c5⟩
       | go_keep)
     (first
       | (go_at_call 30;go_fit (HPR.out u4.drew (af HV0.out D0));rintro e uu ⟨rk,rn,rs,ra,rl,rc,rfl,⟨Lr,hre,hrl,hrs,hrL⟩,h1⟩;have kk1:Below u4.heap.size u4 uu:=D0.trans h1;have hb1:=HRB.out uu kk1;have r0:=ac hb1 0;have r1:=ac hb1 1;have r2:=ac hb1 2;have r3:=ac hb1 3;have f0:=aj hb1 0;have f1:=aj hb1 1;have f2:=aj hb1 2;have f3:=aj hb1 3;simp at r0 r1 r2 r3;have hsq:w.heap.size+2<uu.heap.size:=lt_block' hb1))
    all_goals
     go_wp2_with fail
     obtain⟨Y,eY,⟨t0,t1,t2,t3⟩,hbb,hoth,hsz⟩:=ba (w:=w) (HRB.out uu kk1) rfl (af HWV.out kk1) (by omega) (G F rk) (G F rn) (D rs) (C ra rl rc)
     rw[eY]
     exact bodyPost_ret (v:=vC (rk) (rn) rs ra rl rc) (by simp[results,Tryz.results12,go_sem,t0,t1,t2,t3]) rfl ⟨⟨rk,rn,rs,ra,rl,rc,Lr,rfl,HVE.out.trans hre,hrl,hrs,ap.kept (A':=fun i=>i<w0.heap.size∨w.heap.size≤i) (by have h1:=HW.out.size;have h2:=hbb.size;omega) (fun j hj hjl=>⟨.inl hj,(hbb.block j (by have h1:=HW.out.size;omega)).trans (HW.out.block j hjl)⟩) _ _ _ hrL⟩,hbb⟩
  ·exact absurd (List.mem_map.2 ⟨nd,List.mem_of_getElem? hi,hid⟩) hni
theorem nD {α:Type} {g:α→Int} {L:List α} (h:ez (L.map g)) {x y:α} (hx:x ∈ L) (hy:y ∈ L) (e:g x=g y):x=y:=by
 obtain⟨i,hi⟩:=List.getElem?_of_mem hx
 obtain⟨j,hj⟩:=List.getElem?_of_mem hy
 have h1:=gD h hi e
 have h2:=gD h hj rfl
 rw[h1] at h2
 injection h2
theorem oV {α:Type} {g:α→Int} {L:List α} (h:ez (L.map g)) (i j:Nat) (x y:α) (hx:L[i]? = some x) (hy:L[j]? = some y) (e:g x=g y):i=j:=by
 have key:∀(a b:Nat) (u v:α),L[a]? = some u→L[b]? = some v→g u=g v→¬a<b:=fun a b u v hu hv huv hlt=>by
  have:=h a b (g u) (g v) hlt (by rw[List.getElem?_map,hu];rfl) (by rw[List.getElem?_map,hv];rfl)
  omega
 have h1:=key i j x y hx hy e
 have h2:=key j i y x hy hx e.symm
 omega
theorem ry {w:World} {N:List Nd} {E:List Ed} {na:Option Addr} {nl:Nat} {ea:Option Addr} {el:Nat} (h:iN w N E na nl ea el) {next:Int} (hg:gE N E next=0) (S:List ByteArray) (I:List Int):∃q,aA (fQ w) (bl N E S I []).2 q∧eK (aO q)∧(∀s x,aO q s=some x→Lib.validD x.typ.data.toList=true)∧(∀s x,aO q s=some x→ThG w N E x):=by
 have hR:=n7 hg
 obtain⟨hiN,hiE⟩:=sG hg
 obtain⟨q,hq⟩:=eQ (R:=fun p y=>fQ w p y∧y.2.ok∧Lib.validD y.2.typ.data.toList=true∧ThG w N E y.2) (bl N E S I []).2 (fun p hp=>by
  rcases kT S I [] p hp with hp | ⟨id,hp⟩
  ·cases hp
  ·obtain⟨ps,pt⟩:=p
   have hp:bg N E id=some pt:=hp
   unfold bg at hp
   cases hn:N.find? (fun x=>x.id==id) with
   | some y=>
     rw[hn] at hp
     injection hp with hp
     subst hp
     have hy:=List.mem_of_find?_eq_some hn
     obtain⟨X,hX,hck⟩:=ip (h.2.2.1 y hy).2.1 (h.2.2.1 y hy).2.2 (hR.nodes y hy).2
     have:=hiN y hy
     refine⟨(ps,⟨false,y.id,⟨#[]⟩,X⟩),⟨rfl,y.props,y.pa,y.pl,y.pc,rfl,by show(0:Nat)≤_;omega,(h.2.2.1 y hy).2.1,hX⟩,⟨⟨by show -9223372036854775808≤y.id;omega,by show y.id≤_;omega⟩,by show(0:Nat)≤_;omega,hck⟩,rfl,.inl ⟨rfl,List.mem_map.2 ⟨y,hy,rfl⟩,fun nd hnd e=>?_⟩⟩
     have:=nD hR.riseN hnd hy e
     subst this
     exact⟨(h.2.2.1 nd hy).2.1,hX⟩
   | none=>
     rw[hn] at hp
     cases he:E.find? (fun x=>x.id==id) with
     | none=>rw[he] at hp;cases hp
     | some y=>
       rw[he] at hp
       injection hp with hp
       subst hp
       have hy:=List.mem_of_find?_eq_some he
       have hyi:y.id=id:=by simpa using List.find?_some he
       obtain⟨X,hX,hck⟩:=ip (h.2.2.2 y hy).1 (h.2.2.2 y hy).2 (hR.edges y hy).2.2.2
       have hh:=hiE y hy
       have hs:=qa hh.2.2
       refine⟨(ps,⟨true,y.id,y.typ,X⟩),⟨rfl,y.props,y.pa,y.pl,y.pc,rfl,by show y.typ.size≤_;omega,(h.2.2.2 y hy).1,hX⟩,⟨⟨by show -9223372036854775808≤y.id;omega,by show y.id≤_;omega⟩,by show y.typ.size≤4000;omega,hck⟩,pe hh.2.2,.inr ⟨rfl,fun hin=>?_,List.mem_map.2 ⟨y,hy,rfl⟩,fun ed hed e=>?_⟩⟩
       ·obtain⟨nd,hnd,e⟩:=List.mem_map.1 hin
        have:=List.find?_eq_none.1 hn nd hnd
        have e:nd.id=y.id:=e
        simp[e,hyi] at this
       ·have:=nD hR.riseE hed hy e
        subst this
        exact⟨rfl,(h.2.2.2 ed hy).1,hX⟩)
 have get:∀s x,aO q s=some x→x.ok∧Lib.validD x.typ.data.toList=true∧ThG w N E x:=fun s x hx=>by
  unfold aO at hx
  cases hf:q.find? (fun p=>s==p.1) with
  | none=>rw[hf] at hx;cases hx
  | some y=>
    rw[hf] at hx
    injection hx with hx
    obtain⟨i,hi⟩:=List.getElem?_of_mem (List.mem_of_find?_eq_some hf)
    obtain⟨p,_,_,hok⟩:=hq.right hi
    rw[←hx]
    exact hok
 exact⟨q,hq.mono fun _ _ _ _ h=>h.1,fun s x hx=>(get s x hx).1,fun s x hx=>(get s x hx).2.1,fun s x hx=>(get s x hx).2.2⟩
theorem gJ (a b:ByteArray):(a==b)=true ↔ a=b:=⟨gp,fun h=>by
 subst h
 obtain⟨a⟩:=a
 show(a==a)=true
 simp⟩
theorem l8 (a b:ByteArray) (h:¬a=b):(a==b)=false:=by
 cases hb:(a==b) with
 | false=>rfl
 | true=>exact absurd (gp hb) h
abbrev SE:=ByteArray × Value × Nat
def cL (t:SE):MapEntry:=⟨D t.1,t.2.1,t.2.2⟩
def fW (p:ByteArray):List SE→Option Value
 | []=>none
 | t::l=>if p=t.1 then some t.2.1 else fW p l
def gL (p:ByteArray):List SE→Nat→Option (Nat × Value)
 | [],_=>none
 | t::l,i=>if p=t.1 then some (i,t.2.1) else gL p l (i+1)
def dP (L:List SE) (j:Nat) (v:Value):List SE:=L.modify j fun t=>(t.1,v,t.2.2)
theorem o6 (p:ByteArray):∀(L:List SE) (i:Nat),(gL p L i).map (·.2)=fW p L
 | [],i=>rfl
 | t::l,i=>by
   unfold gL fW
   by_cases h:p=t.1
   ·simp[h]
   ·simp only[h,if_false]
    exact o6 p l (i+1)
theorem jp (p:ByteArray) (v':Value):∀(L:List SE) (i k:Nat) (v:Value),gL p L i=some (k,v)→∃j t,k=i+j∧L[j]? = some t∧t.1=p∧t.2.1=v∧∀q,fW q (dP L j v')=if q=p then some v' else fW q L
 | [],i,k,v,h=>by cases h
 | t::l,i,k,v,h=>by
   unfold gL at h
   by_cases hp:p=t.1
   ·rw[if_pos hp] at h
    injection h with h
    injection h with h1 h2
    refine⟨0,t,by omega,rfl,hp.symm,h2,fun q=>?_⟩
    have e:dP (t::l) 0 v'=(t.1,v',t.2.2)::l:=rfl
    rw[e]
    unfold fW
    by_cases hq:q=p
    ·subst hq
     simp[hp]
    ·have hq2:¬q=t.1:=fun e=>hq (e.trans hp.symm)
     simp[hq,hq2]
   ·rw[if_neg hp] at h
    obtain⟨j,t',h1,h2,h3,h4,h5⟩:=jp p v' l (i+1) k v h
    refine⟨j+1,t',by omega,by simpa using h2,h3,h4,fun q=>?_⟩
    have e:dP (t::l) (j+1) v'=t::dP l j v':=rfl
    rw[e]
    unfold fW
    by_cases hq:q=t.1
    ·have:¬q=p:=fun e=>hp (e.symm.trans hq)
     simp[hq,Ne.symm hp]
    ·simp only[hq,if_false]
     exact h5 q
theorem jq (p:ByteArray) (z:Value) (c:Nat):∀(L:List SE) (i:Nat),gL p L i=none→gL p (L ++ [(p,z,c)]) i=some (i+L.length,z)∧∀q,q≠p→fW q (L ++ [(p,z,c)])=fW q L
 | [],i,_=>⟨by simp[gL],fun q hq=>by simp[fW,hq]⟩
 | t::l,i,h=>by
   unfold gL at h
   by_cases hp:p=t.1
   ·rw[if_pos hp] at h
    cases h
   ·rw[if_neg hp] at h
    obtain⟨h1,h2⟩:=jq p z c l (i+1) h
    refine⟨?_,fun q hq=>?_⟩
    ·show gL p (t::(l ++ [(p,z,c)])) i=_
     unfold gL
     rw[if_neg hp,h1]
     simp
     omega
    ·show fW q (t::(l ++ [(p,z,c)]))=_
     unfold fW
     rw[h2 q hq]
theorem js:∀(L:List SE) (j:Nat) (t:SE),L[j]? = some t→(L.map (·.2.2)).Nodup→(L.map cL).findIdx? (fun e=>(e.born:Int)==(t.2.2:Int))=some j
 | [],j,t,h,_=>by simp at h
 | x::l,0,t,h,_=>by
   simp at h
   subst h
   simp[List.findIdx?_cons,cL]
 | x::l,j+1,t,h,hn=>by
   have h':l[j]? = some t:=by simpa using h
   rw[List.map_cons,List.nodup_cons] at hn
   have ih:=js l j t h' hn.2
   have hne:¬x.2.2=t.2.2:=fun e=>hn.1 (e▸List.mem_map.2 ⟨t,List.mem_of_getElem? h',rfl⟩)
   rw[List.map_cons,List.findIdx?_cons,ih]
   have:((cL x).born:Int)==(t.2.2:Int) ↔ False:=by simp[cL];omega
   simp[cL,hne]
   omega
theorem oS (L:List SE) (j:Nat) (v:Value):(L.map cL).modify j (fun e=>{ e with val:=v })=(dP L j v).map cL:=by
 unfold dP
 induction L generalizing j with
 | nil=>simp
 | cons t l ih=>
   cases j with
   | zero=>simp[cL]
   | succ j=>simp[ih]
theorem jl (L:List SE) (j:Nat) (v:Value):(dP L j v).map (·.2.2)=L.map (·.2.2):=by
 unfold dP
 induction L generalizing j with
 | nil=>simp
 | cons t l ih=>
   cases j with
   | zero=>simp
   | succ j=>simp[ih]
theorem po (L:List SE) (j:Nat) (t:SE) (h:L[j]? = some t) (p:ByteArray) (hp:t.1=p):(L.map cL).modify j (fun e=>{ e with key:=D p })=L.map cL:=by
 induction L generalizing j with
 | nil=>simp
 | cons x l ih=>
   cases j with
   | zero=>
     simp at h
     subst h
     subst hp
     simp[cL]
   | succ j=>
     have:=ih j (by simpa using h)
     simp[this]
def ch (w:World) (r:Nat) (f:ByteArray→Option Int):Prop:=∃(L:List SE) (clk:Nat),w.heap[r]? = some (.map (L.map cL).toArray clk)∧(∀t ∈ L,t.2.2<clk)∧(L.map (·.2.2)).Nodup∧∀q,fW q L=(f q).map fun v=>G F v
theorem ch.of {w w':World} {r:Nat} {f:ByteArray→Option Int} (h:ch w r f) (e:w'.heap[r]? = w.heap[r]?):ch w' r f:=by
 obtain⟨L,clk,h1,h2⟩:=h
 exact⟨L,clk,e.trans h1,h2⟩
theorem ch.new {w:World} {r:Nat} (h:w.heap[r]? = some (.map #[] 0)):ch w r (fun _=>none):=⟨[],0,h,fun t ht=>(by cases ht),List.nodup_nil,fun p=>rfl⟩
theorem uU:∀L:List SE,cm (L.map cL):=fun L e he=>by
 obtain⟨t,_,rfl⟩:=List.mem_map.1 he
 exact⟨t.1,rfl⟩
theorem qb (s:ByteArray):∀L:List SE,bH s (L.map cL)=fW s L
 | []=>rfl
 | t::L=>by
   show(if (s==t.1)=true then some t.2.1 else bH s (L.map cL))=if s=t.1 then some t.2.1 else fW s L
   rw[qb s L]
   by_cases h:s=t.1
   ·rw[if_pos ((gJ _ _).2 h),if_pos h]
   ·rw[if_neg (fun e=>h (gp e)),if_neg h]
theorem ch.ints {w:World} {r:Nat} {f:ByteArray→Option Int} (h:ch w r f):cn w r f:=by
 obtain⟨L,clk,h1,_,_,h4⟩:=h
 exact⟨_,_,h1,by rw[K];exact uU L,fun s=>by rw[K,qb];exact h4 s⟩
theorem lU (p:ByteArray):∀(L:List SE) (i:Nat),Instr.findNow .string (D p) (L.map cL) i=some (gL p L i)
 | [],i=>rfl
 | t::L,i=>by
   have ih:=lU p L (i+1)
   show Instr.findNow .string (D p) (cL t::L.map cL) i=some (if p=t.1 then some (i,t.2.1) else gL p L (i+1))
   by_cases h:p=t.1
   ·have hb:(p==t.1)=true:=(gJ _ _).2 h
    rw[if_pos h]
    simp[Instr.findNow,cL,Instr.sameNow,hb]
   ·have hb:(p==t.1)=false:=l8 _ _ h
    simp[Instr.findNow,cL,Instr.sameNow,hb,h,ih]
theorem lf (p:ByteArray) (w:World) (L:List SE):(Instr.findKey 9 (D p) (L.map cL)).run Tryz.prog w = .ok (gL p L 0) w:=run_findKey (w:=w) Tryz.underlying9 (lU p L 0)
theorem qs (b:Bool) (p:ByteArray) (w:World):(Instr.checkKey b 10000 9 (D p)).run Tryz.prog w = .ok () w:=run_checkKey (P:=Tryz.prog) (w:=w) Tryz.underlying9 (jb p) b 9999
theorem oU (p:ByteArray):Instr.sameBits 10000 (D p) (D p)=true:=by
 simp[Instr.sameBits,(gJ p p).2 rfl]
theorem tj (p:ByteArray) (w:World):(Instr.keyThatStays (D p) (D p)).run Tryz.prog w = .ok (D p) w:=by
 unfold Instr.keyThatStays
 rw[if_pos (oU p)]
 rfl
theorem bw {w:World} {r:Nat} {f:ByteArray→Option Int} (h:ch w r f) (p:ByteArray) (x:Int):∃(stamp:Int) (v:Value) (o1:Obj),(Instr.mapEntry 38 (.map (some r)) (D p)).run Tryz.prog w = .ok (U #[v,G F stamp]) (a7 w r o1)∧∀w1:World,w1.heap[r]? = some o1→∃o2,(Instr.entryStore 38 (.map (some r)) (G F stamp) (G F x)).run Tryz.prog w1 = .ok () (a7 w1 r o2)∧∀w2:World,w2.heap[r]? = some o2→ch w2 r (fun q=>if q=p then some x else f q):=by
 obtain⟨L,clk,hr,h1,h2,h3⟩:=h
 have h0:=Go.MapKept.run_getObj_map (P:=Tryz.prog) hr
 have hk:=lf p w L
 have store:∀(L1:List SE) (clk1 j:Nat) (v:Value),(∀t ∈ L1,t.2.2<clk1)→(L1.map (·.2.2)).Nodup→gL p L1 0=some (j,v)→(∀q,q≠p→fW q L1=fW q L)→∃t,L1[j]? = some t∧t.1=p∧t.2.1=v∧∀w1:World,w1.heap[r]? = some (.map (L1.map cL).toArray clk1)→∃o2,(Instr.entryStore 38 (.map (some r)) (G F (t.2.2:Int)) (G F x)).run Tryz.prog w1 = .ok () (a7 w1 r o2)∧∀w2:World,w2.heap[r]? = some o2→ch w2 r (fun q=>if q=p then some x else f q):=by
  intro L1 clk1 j v q1 q2 q3 q4
  obtain⟨j',t,e1,e2,e3,e4,e5⟩:=jp p (G F x) L1 0 j v q3
  rw[Nat.zero_add] at e1
  subst e1
  refine⟨t,e2,e3,e4,fun w1 hw1=>⟨.map ((dP L1 j (G F x)).map cL).toArray clk1,?_,fun w2 hw2=>⟨dP L1 j (G F x),clk1,hw2,fun y hy=>?_,by rw[jl];exact q2,fun q=>?_⟩⟩⟩
  ·have g0:=Go.MapKept.run_getObj_map (P:=Tryz.prog) hw1
   have g1:=Go.MapKept.run_setObj_map (P:=Tryz.prog) (.map ((dP L1 j (G F x)).map cL).toArray clk1) hw1
   have g2:((L1.map cL).toArray).findIdx? (fun e=>(e.born:Int)==(t.2.2:Int))=some j:=by
    rw[List.findIdx?_toArray]
    exact js L1 j t e2 q2
   have g3:((L1.map cL).toArray).modify j (fun e=>{ e with val:=(G F x) })=((dP L1 j (G F x)).map cL).toArray:=by
    rw[←oS,List.modify_toArray]
   unfold Instr.entryStore
   simp only[Sem.run_bind,g0,Result.andThen,asInt,asIntOf,Sem.run_pure,g2,g3,g1]
   rfl
  ·have hb:y.2.2 ∈ (dP L1 j (G F x)).map (·.2.2):=List.mem_map.2 ⟨y,hy,rfl⟩
   rw[jl] at hb
   obtain⟨z,hz,e⟩:=List.mem_map.1 hb
   have:=q1 z hz
   omega
  ·rw[e5 q]
   by_cases hq:q=p
   ·subst hq
    simp
   ·simp only[hq,if_false]
    rw[q4 q hq]
    exact h3 q
 cases hx:gL p L 0 with
 | some jv=>
   obtain⟨j,v⟩:=jv
   obtain⟨t,e2,e3,e4,hst⟩:=store L clk j v h1 h2 hx (fun _ _=>rfl)
   refine⟨(t.2.2:Int),v,.map (L.map cL).toArray clk,?_,hst⟩
   have g1:=Go.MapKept.run_setObj_map (P:=Tryz.prog) (.map (L.map cL).toArray clk) hr
   have g2:((L.map cL).toArray)[j]? = some (cL t):=by simp[e2]
   have g3:((L.map cL).toArray).modify j (fun e=>{ e with key:=D p })=(L.map cL).toArray:=by
    rw[List.modify_toArray,po L j t e2 p e3]
   have g4:(cL t).key=D p:=by rw[←e3];rfl
   unfold Instr.mapEntry
   simp only[Sem.run_bind,run_underlying Tryz.underlying38,Result.andThen,h0,qs,K,hk,hx,g2,Option.map_some,Option.getD_some,g4,tj,g3,g1,Sem.run_pure]
   rfl
 | none=>
   obtain⟨p1,p2⟩:=jq p (G F 0) clk L 0 hx
   rw[Nat.zero_add] at p1
   have b1:∀x ∈ L ++ [((p,M .i64 0,clk):SE)],x.2.2<clk+1:=fun x hx2=>by
    rcases List.mem_append.1 hx2 with hx2 | hx2
    ·have:=h1 x hx2
     omega
    ·simp at hx2
     subst hx2
     exact Nat.lt_succ_self _
   have b2:((L ++ [((p,M .i64 0,clk):SE)]).map (·.2.2)).Nodup:=by
    rw[List.map_append,List.nodup_append]
    refine⟨h2,by simp,fun a ha b hb=>?_⟩
    simp at hb
    subst hb
    obtain⟨y,hy,rfl⟩:=List.mem_map.1 ha
    have:=h1 y hy
    omega
   obtain⟨t,e2,e3,e4,hst⟩:=store (L ++ [(p,G F 0,clk)]) (clk+1) L.length (G F 0) b1 b2 p1 p2
   have ht:t=((p,M .i64 0,clk):SE):=by simpa using e2.symm
   subst ht
   refine⟨(clk:Int),G F 0,.map ((L ++ [((p,M .i64 0,clk):SE)]).map cL).toArray (clk+1),?_,hst⟩
   have g1:=Go.MapKept.run_setObj_map (P:=Tryz.prog) (.map ((L ++ [((p,M .i64 0,clk):SE)]).map cL).toArray (clk+1)) hr
   have g3:((L.map cL).toArray).push { key:=D p,val:=G F 0,born:=clk }=((L ++ [((p,M .i64 0,clk):SE)]).map cL).toArray:=by
    simp[cL]
   unfold Instr.mapEntry
   simp only[Sem.run_bind,run_underlying Tryz.underlying38,Result.andThen,h0,qs,K,hk,hx,mY,g3,g1,Sem.run_pure]
   rfl
theorem lV {B:Nat} {w0:World} {N:List Nd} {E:List Ed} {na:Option Addr} {nl:Nat} {ea:Option Addr} {el:Nat} (h:iN w0 N E na nl ea el) (nc ec:Nat) (next:Int) {S:List ByteArray} {sa:Option Addr} {sl:Nat} (sc:Nat) {I:List Int} {ia:Option Addr} {il:Nat} (ic:Nat) (hS:cD w0 S sa sl) (hII:dH w0 I ia il) (hB:B≤w0.heap.size) (hT:bD B w0) (k vk vn:Int) (vs:ByteArray) (va:Option Addr) (vl vc:Nat) (nm:ByteArray) (a:Option Addr) (l c:Nat) (Lv:List T) (A:List Tm) (ht:bd w0 k vk vn vs va vl vc nm a l c Lv A) (hI:InM (.node k (.node vk vn vs Lv) nm A)):∃q,(gE N E next=0→aA (fQ w0) (bl N E S I []).2 q∧eK (aO q)∧(∀s x,aO q s=some x→Lib.validD x.typ.data.toList=true)∧(∀s x,aO q s=some x→ThG w0 N E x))∧∀W,Below w0.heap.size w0 W→Calls Tryz.prog 4 #[O #[C na nl nc,C ea el ec,G F next],C sa sl sc,C ia il ic,O #[G F k,G F vk,G F vn,D vs,C va vl vc,D nm,C a l c]] W fun e w'=>ta W (evE (gE N E next) il sl (bl N E S I []).1 (bi (aO q) 6 (.node k (.node vk vn vs Lv) nm A))) (aI (aO q) 6 (.node k (.node vk vn vs Lv) nm A)) e w'∧Below W.heap.size W w':=by
 have key:∃q,(gE N E next=0→aA (fQ w0) (bl N E S I []).2 q∧eK (aO q)∧(∀s x,aO q s=some x→Lib.validD x.typ.data.toList=true)∧(∀s x,aO q s=some x→ThG w0 N E x)):=by
  by_cases hg:gE N E next=0
  ·obtain⟨q,hq⟩:=ry h hg S I
   exact⟨q,fun _=>hq⟩
  ·exact⟨[],fun hh=>absurd hh hg⟩
 obtain⟨q,hq⟩:=key
 refine⟨q,hq,fun W kW=>?_⟩
 exact kJ (B:=B) w0 W na nl nc ea el ec next sa sl sc ia il ic k vk vn vs va vl vc nm a l c Lv A (gE N E next) (bl N E S I []) q kW hB hT ht hI
  (fun V kV=>oy h nc ec next V kV)
  (fun hg hl _ V kV=>by
    have hR:=n7 hg
    have h1:=h.1.1
    have h2:=h.2.1.1
    have f1:=hR.fewN
    have f2:=hR.fewE
    exact iK w0 V N E na nl nc ea el ec next S sa sl sc I ia il ic kV h.1 h.2.1 (by omega) (by omega) hR.riseN hR.riseE hS hII hl)
  (fun hg _=>(hq hg).1)
  (fun hg _=>(hq hg).2.1) hS.2.1
def f1L (l:List (ByteArray × ThR)) (s:ByteArray):Option Int:=(l.find? (fun p=>s==p.1)).map fun p=>if p.2.edge=true then 2 else 1
def f2L (l:List (ByteArray × ThR)) (s:ByteArray):Option Int:=(l.find? (fun p=>s==p.1)).map fun p=>p.2.id
theorem lT (l:List (ByteArray × ThR)) (s:ByteArray) (x:ThR) (q:ByteArray) (hn:(l.find? (fun p=>s==p.1)).isSome=false):(l ++ [(s,x)]).find? (fun p=>q==p.1)=if q=s then some (s,x) else l.find? (fun p=>q==p.1):=by
 rw[List.find?_append]
 by_cases h:q=s
 ·subst h
  have:l.find? (fun p=>q==p.1)=none:=by
   cases hf:l.find? (fun p=>q==p.1) with
   | none=>rfl
   | some y=>rw[hf] at hn;cases hn
  rw[this,if_pos rfl,Option.none_or,List.find?_cons_of_pos (by simpa using(gJ q q).2 rfl)]
 ·rw[if_neg h,List.find?_cons_of_neg (by simp[l8 q s h]),List.find?_nil,Option.or_none]
theorem qi (l:List (ByteArray × ThR)) (s:ByteArray) (x:ThR) (hn:(l.find? (fun p=>s==p.1)).isSome=false):f1L (l ++ [(s,x)])=fun q=>if q=s then some (if x.edge=true then 2 else 1) else f1L l q:=by
 funext q
 unfold f1L
 rw[lT l s x q hn]
 by_cases h:q=s
 ·rw[if_pos h,if_pos h];rfl
 ·rw[if_neg h,if_neg h]
theorem qh (l:List (ByteArray × ThR)) (s:ByteArray) (x:ThR) (hn:(l.find? (fun p=>s==p.1)).isSome=false):f2L (l ++ [(s,x)])=fun q=>if q=s then some x.id else f2L l q:=by
 funext q
 unfold f2L
 rw[lT l s x q hn]
 by_cases h:q=s
 ·rw[if_pos h,if_pos h];rfl
 ·rw[if_neg h,if_neg h]
theorem vb {w:World} {l:List (ByteArray × ThR)} {q:List (ByteArray × Th)} (h:aA (fQ w) l q) (s:ByteArray):f1L l s=(aO q s).map fun x=>if x.edge=true then 2 else 1:=by
 have hb:=jK s l q h
 unfold f1L aO
 cases hq:q.find? (fun p=>s==p.1) with
 | none=>
   rw[hq] at hb
   have hb:l.find? (fun p=>s==p.1)=none:=hb
   rw[hb]
   rfl
 | some y=>
   rw[hq] at hb
   obtain⟨p,hp,P,pa,pl,pc,hv,_⟩:=hb
   rw[hp]
   have e:p.2.edge=y.2.edge:=by
    unfold ThR.val at hv
    injection hv with hv
    have:=congrArg (fun a=>a[0]?) hv
    simpa using this
   show some (if p.2.edge=true then (2:Int) else 1)=some (if y.2.edge=true then 2 else 1)
   rw[e]
theorem uZ {w:World} {l:List (ByteArray × ThR)} {q:List (ByteArray × Th)} (h:aA (fQ w) l q) (s:ByteArray):f2L l s=(aO q s).map Th.id:=by
 have hb:=jK s l q h
 unfold f2L aO
 cases hq:q.find? (fun p=>s==p.1) with
 | none=>
   rw[hq] at hb
   have hb:l.find? (fun p=>s==p.1)=none:=hb
   rw[hb]
   rfl
 | some y=>
   rw[hq] at hb
   obtain⟨p,hp,P,pa,pl,pc,hv,_⟩:=hb
   rw[hp]
   have e:p.2.id=y.2.id:=by
    unfold ThR.val at hv
    injection hv with hv
    have:=congrArg (fun a=>a[1]?) hv
    simpa using this
   show some p.2.id=some y.2.id
   rw[e]
end Go.Proofs.YtijjpoohhgapoaaGreatDoor

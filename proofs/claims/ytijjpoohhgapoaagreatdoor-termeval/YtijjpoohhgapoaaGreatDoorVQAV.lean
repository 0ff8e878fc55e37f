import Derived.Test.YtijjpoohhgapoaaGreatDoorVQAU
namespace Go.Proofs.YtijjpoohhgapoaaGreatDoor
open Go.RowKit
set_option linter.unusedVariables false
set_option maxHeartbeats 4000000
set_option maxRecDepth 100000
open Value renaming string → C, slice → D, int → I, agg → O
open IntKind renaming i64 → H
open Obj renaming cells → J
open Nat renaming le_refl → M
open RowKit.Below renaming refl → N
open Ending renaming returned → Q
theorem dm {P:Program} {f:FuncId} {args:Array Value} {w:World} {R R':Ending→World→Prop} (h:Calls P f args w R) (m:∀e w',R e w'→R' e w'):Calls P f args w R':=fun cs=>by
 obtain⟨e,w',fr,r,q⟩:=h cs
 exact⟨e,w',fr,m e w' r,q⟩
theorem iZ {A:Nat→Prop} {w:World} (nmx:ByteArray):∀(P:List Pr) (X:List AP),aA (eg A w) P X→match bP P nmx with
  | none=>X.find? (fun p=>p.name.toList==nmx.toList)=none
  | some p=>∃x,X.find? (fun p=>p.name.toList==nmx.toList)=some x∧eg A w p x
 | [],X,h=>by
   have:X = []:=List.length_eq_zero_iff.1 h.1.symm
   subst this
   rfl
 | p::P,[],h=>by have:=h.1;simp at this
 | p::P,x::X,h=>by
   have h0:eg A w p x:=h.2 0 p x rfl rfl
   have ht:aA (eg A w) P X:=⟨by have:=h.1;simpa using this,fun i q y hq hy=>h.2 (i+1) q y (by simpa using hq) (by simpa using hy)⟩
   have ih:=iZ nmx P X ht
   by_cases hp:p.name.toList=nmx.toList
   ·have hx:x.name.toList=nmx.toList:=by rw[←h0.1];exact hp
    have e1:bP (p::P) nmx=some p:=by rw[bP,List.find?_cons_of_pos (by simpa using hp)]
    rw[e1]
    exact⟨x,List.find?_cons_of_pos (by simpa using hx),h0⟩
   ·have hx:¬x.name.toList=nmx.toList:=by rw[←h0.1];exact hp
    have e1:bP (p::P) nmx=bP P nmx:=by rw[bP,List.find?_cons_of_neg (by simpa using hp)];rfl
    have e2:(x::X).find? (fun p=>p.name.toList==nmx.toList)=X.find? (fun p=>p.name.toList==nmx.toList):=List.find?_cons_of_neg (by simpa using hx)
    rw[e1,e2]
    exact ih
theorem rb {w0:World} {x:Th} {P:List Pr} {pa:Option Addr} {pl pc:Nat} (nm:ByteArray) (hpp:aX w0 P pa pl) (hpr:aA (eg fI w0) P x.props) (W:World) (k:Below w0.heap.size w0 W):Calls Tryz.prog 58 #[D pa pl pc,C nm] W fun e w'=>∃rk rn rs ra rl rc,e=Q (vC rk rn rs ra rl rc)∧(∃L,cR nm x = .node rk rn rs L∧rl≤rc∧rs.size≤9223372036854775807∧ap (fun i=>i<w0.heap.size) w0 L ra rl)∧Below W.heap.size W w':=by
 refine dm (mf P pa pl pc nm W (aX.below k hpp)) fun e w' h=>?_
 obtain⟨h,hb⟩:=h
 have hf:=iZ nm P x.props hpr
 rcases h with⟨h1,rfl⟩ | ⟨p,h1,_,rfl⟩
 ·rw[h1] at hf
  have hf:x.props.find? (fun p=>p.name.toList==nm.toList)=none:=hf
  refine⟨0,0,⟨#[]⟩,none,0,0,rfl,⟨[],?_,M _,by decide,df⟩,hb⟩
  unfold cR
  rw[hf]
  rfl
 ·rw[h1] at hf
  obtain⟨y,hf,_,_,g2,g3,Lt,g4,g5⟩:=hf
  refine⟨p.k,p.n,p.s,p.a,p.l,p.c,rfl,⟨Lt,?_,g3,g2,ap.kept (M _) (fun i _ hl=>⟨hl,rfl⟩) _ _ _ g5⟩,hb⟩
  unfold cR
  rw[hf]
  exact g4
theorem m7 {env:ByteArray→Option Th} {B:Nat} (w0 w:World) (k vk vn:Int) (vs:ByteArray) (va:Option Addr) (vl vc:Nat) (nm:ByteArray) (a:Option Addr) (l c:Nat) (Lv:List T) (A:List Tm) (bm m bk:Nat) (hw:Below w0.heap.size w0 w) (hB:B≤w0.heap.size) (hT:bD B w0) (ht:bd w0 k vk vn vs va vl vc nm a l c Lv A) (hn:bI w0 m env) (hb:dr w0 bm bk) (hk:k=3) (y:Tm) (hA:A = [y]) (x:Th) (hx:env y.name=some x):Calls Tryz.prog 18 #[.map (some bm),O #[I H k,I H vk,I H vn,C vs,D va vl vc,C nm,D a l c],.map (some m)] w fun e w'=>aL (fun i=>i<w0.heap.size) w w' (cR nm x) e∧Below w.heap.size w w':=by
 subst hk
 have hlen:=ht.args.len.1
 obtain⟨b,off,k1,vk1,vn1,vs1,va1,vl1,vc1,nm1,a1,l1,c1,Lv1,A1,ha,hbl,hd,⟨-,-,-,-,-,x5,-⟩,-⟩:=ht.args.at (i:=0) (by rw[hlen,hA];simp)
 subst ha
 rw[Nat.zero_mul,Nat.add_zero] at x5
 have e1:y = .node k1 (.node vk1 vn1 vs1 Lv1) nm1 A1:=by rw[hA] at hd;simpa using hd
 subst e1
 have hl:l=1:=by rw[hlen,hA];simp
 subst hl
 obtain⟨P,pa,pl,pc,hts,hpp,hpr,hlk⟩:=eA hn nm1 x hx
 have HC:Hid (∀W,Below w0.heap.size w0 W→_):=fun W k=>rb (pc:=pc) nm hpp hpr W k
 have HLK:=aa hlk
 have h0:=ay w (J #[I H 3,I H vk,I H vn,C vs,D va vl vc,C nm,D (some ⟨b,off,none⟩) 1 c] 33) (J #[I H 0,I H 0,C ⟨#[]⟩,D none 0 0] 30)
 have h1:((w.alloc (J #[I H 3,I H vk,I H vn,C vs,D va vl vc,C nm,D (some ⟨b,off,none⟩) 1 c] 33)).alloc (J #[I H 0,I H 0,C ⟨#[]⟩,D none 0 0] 30)).heap[w.heap.size]? = some (J #[I H 3,I H vk,I H vn,C vs,D va vl vc,C nm,D (some ⟨b,off,none⟩) 1 c] 33 (0,0)):=by
  have hb:Below (w.heap.size+1) (w.alloc (J #[I H 3,I H vk,I H vn,C vs,D va vl vc,C nm,D (some ⟨b,off,none⟩) 1 c] 33)) ((w.alloc (J #[I H 3,I H vk,I H vn,C vs,D va vl vc,C nm,D (some ⟨b,off,none⟩) 1 c] 33)).alloc (J #[I H 0,I H 0,C ⟨#[]⟩,D none 0 0] 30)):=(N _ _).alloc (by simp) _
  exact(hb.block w.heap.size (by omega)).trans (ae w (J #[I H 3,I H vk,I H vn,C vs,D va vl vc,C nm,D (some ⟨b,off,none⟩) 1 c] 33))
 have hz:((w.alloc (J #[I H 3,I H vk,I H vn,C vs,D va vl vc,C nm,D (some ⟨b,off,none⟩) 1 c] 33)).alloc (J #[I H 0,I H 0,C ⟨#[]⟩,D none 0 0] 30)).heap.size=w.heap.size+2:=by simp
 have hb2:Below w.heap.size w ((w.alloc (J #[I H 3,I H vk,I H vn,C vs,D va vl vc,C nm,D (some ⟨b,off,none⟩) 1 c] 33)).alloc (J #[I H 0,I H 0,C ⟨#[]⟩,D none 0 0] 30)):=((N _ _).alloc (M _) _).alloc (by simp) _
 have H0:=aa h0
 have H1:=aa h1
 have HZ:=aa hz
 have HB:=aa hb2
 have HW:=aa hw
 have X5:=aa x5
 have HLL:=aa hbl
 clear ht hn hb hT hlk hpp hpr hts hd hA hlen h0 h1 hz hb2 hw x5 hbl
 go_enter Tryz.func18,Tryz.ntmps18
 go_upto_region 6 with fail
 generalize (w.alloc (J #[I H 3,I H vk,I H vn,C vs,D va vl vc,C nm,D (some ⟨b,off,none⟩) 1 c] 33)).alloc (J #[I H 0,I H 0,C ⟨#[]⟩,D none 0 0] 30)=W at HB H0 H1 HZ ⊢
 have HSZ:=aa HW.out.size
 have D0:Below W.heap.size W W.drew:=(N _ _).drew
 have hbw:=HLL.out
 have HS:Hid (∀W',Below W.heap.size W W'→W'.cell? ⟨b,off+5,none⟩=some (C nm1)∧W'.cell? ⟨w.heap.size,5,none⟩=some (C nm)∧W'.cell? ⟨w.heap.size,6,none⟩=some (D (some ⟨b,off,none⟩) 1 c)):=fun W' kk=>by
  have q:W'.heap[w.heap.size]? = some (J #[I H 3,I H vk,I H vn,C vs,D va vl vc,C nm,D (some ⟨b,off,none⟩) 1 c] 33 (0,0)):=(kk.block _ (by rw[HZ.out];omega)).trans H1.out
  refine⟨((HW.out.trans ((af HB.out kk).mono HSZ.out)).cell (p:=⟨b,off+5,none⟩) HLL.out).trans X5.out,?_,?_⟩
  ·simpa using ac q 5
  ·simpa using ac q 6
 obtain⟨y5,y6,y7⟩:=HS.out W (N _ _)
 have hbW:b<W.heap.size:=by rw[HZ.out];have:=HSZ.out;omega
 have hl0:=(HLK.out W.drew (HW.out.trans ((af HB.out D0).mono HSZ.out))).1
 have hl1:=fun W':World=>n9 W' x.edge x.id x.typ pa pl pc
 have hl2:=(HLK.out W (HW.out.trans (HB.out.mono HSZ.out))).1
 have HRB:Hid (∀u,Below W.heap.size W u→u.heap[w.heap.size+1]? = some (J #[I H 0,I H 0,C ⟨#[]⟩,D none 0 0] 30 (0,0))):=fun u k=>(k.block (w.heap.size+1) (by rw[HZ.out];omega)).trans H0.out
 have HST:Hid (∀u,Below W.heap.size W u→∀v0 v1 v2 v3:Value,((((u.setCell ⟨w.heap.size+1,0,none⟩ v0).setCell ⟨w.heap.size+1,1,none⟩ v1).setCell ⟨w.heap.size+1,2,none⟩ v2).setCell ⟨w.heap.size+1,3,none⟩ v3).cell? ⟨b,off+5,none⟩=some (C nm1)∧((((u.setCell ⟨w.heap.size+1,0,none⟩ v0).setCell ⟨w.heap.size+1,1,none⟩ v1).setCell ⟨w.heap.size+1,2,none⟩ v2).setCell ⟨w.heap.size+1,3,none⟩ v3).cell? ⟨w.heap.size,5,none⟩=some (C nm)∧((((u.setCell ⟨w.heap.size+1,0,none⟩ v0).setCell ⟨w.heap.size+1,1,none⟩ v1).setCell ⟨w.heap.size+1,2,none⟩ v2).setCell ⟨w.heap.size+1,3,none⟩ v3).cell? ⟨w.heap.size,6,none⟩=some (D (some ⟨b,off,none⟩) 1 c)):=fun u kk v0 v1 v2 v3=>by
  obtain⟨q1,q2,q3⟩:=HS.out u kk
  have hle:=HSZ.out
  have hbq:=HLL.out
  have K:Below (w.heap.size+1) u ((((u.setCell ⟨w.heap.size+1,0,none⟩ v0).setCell ⟨w.heap.size+1,1,none⟩ v1).setCell ⟨w.heap.size+1,2,none⟩ v2).setCell ⟨w.heap.size+1,3,none⟩ v3):=((((N _ _).setCell (p:=⟨w.heap.size+1,0,none⟩) (M _) _).setCell (p:=⟨w.heap.size+1,1,none⟩) (M _) _).setCell (p:=⟨w.heap.size+1,2,none⟩) (M _) _).setCell (p:=⟨w.heap.size+1,3,none⟩) (M _) _
  exact⟨(K.cell (p:=⟨b,off+5,none⟩) (show b<w.heap.size+1 by omega)).trans q1,(K.cell (p:=⟨w.heap.size,5,none⟩) (Nat.lt_succ_self _)).trans q2,(K.cell (p:=⟨w.heap.size,6,none⟩) (Nat.lt_succ_self _)).trans q3⟩
 go_region_held3 (fun W'=>W'.cell? ⟨b,off+5,none⟩=some (C nm1)∧W'.cell? ⟨w.heap.size,5,none⟩=some (C nm)∧W'.cell? ⟨w.heap.size,6,none⟩=some (D (some ⟨b,off,none⟩) 1 c))
  (first
    | with_reducible exact HS.out _ k1
    | with_reducible exact HS.out _ D0
    | with_reducible exact HST.out _ k1 _ _ _ _
    | exact⟨y5,y6,y7⟩
    | go_keep)
  (first
    | (go_at_call 58;go_fit (HC.out W.drew (HW.out.trans ((af HB.out D0).mono HSZ.out)));rintro e u1 ⟨rk,rn,rs,ra,rl,rc,rfl,hv,h1⟩;have HV:=aa hv;clear hv;have k1:Below W.heap.size W u1:=D0.trans h1;have hb1:=HRB.out u1 k1;have r0:=ac hb1 0;have r1:=ac hb1 1;have r2:=ac hb1 2;have r3:=ac hb1 3;have f0:=aj hb1 0;have f1:=aj hb1 1;have f2:=aj hb1 2;have f3:=aj hb1 3;simp at r0 r1 r2 r3;have hsz1:w.heap.size+1<u1.heap.size:=lt_block' hb1))
 all_goals
  go_wp2_with fail
  obtain⟨Lr,p1,p2,p3,p4⟩:=HV.out
  have hle:=HSZ.out
  have eP:∀X:World,(((X.setCell ⟨w.heap.size+1,0,none⟩ (I H rk)).setCell ⟨w.heap.size+1,1,none⟩ (I H rn)).setCell ⟨w.heap.size+1,2,none⟩ (C rs)).setCell ⟨w.heap.size+1,3,none⟩ (D ra rl rc)=au X (w.heap.size+1) 0 [I H rk,I H rn,C rs,D ra rl rc]:=fun _=>rfl
  rw[eP]
  have E:=dh (HRB.out u1 k1) rfl (I H rk) (I H rn) (C rs) (D ra rl rc)
  have hbb:Below w.heap.size w (au u1 (w.heap.size+1) 0 [I H rk,I H rn,C rs,D ra rl rc]):=(af HB.out k1).trans ((aE (w.heap.size+1) _ _ u1).mono (by omega))
  have hoth:∀j,j≠w.heap.size+1→(au u1 (w.heap.size+1) 0 [I H rk,I H rn,C rs,D ra rl rc]).heap[j]? = u1.heap[j]?:=fun j hj=>aB _ _ _ _ j hj
  have hsz:(au u1 (w.heap.size+1) 0 [I H rk,I H rn,C rs,D ra rl rc]).heap.size=u1.heap.size:=aD _ _ _ _
  generalize au u1 (w.heap.size+1) 0 [I H rk,I H rn,C rs,D ra rl rc]=Y at E hbb hoth hsz ⊢
  obtain⟨t0,t1,t2,t3⟩:=ai E
  simp at t0 t1 t2 t3
  exact bodyPost_ret (v:=O #[I H rk,I H rn,C rs,D ra rl rc]) (by simp[results,Tryz.results18,go_sem,t0,t1,t2,t3]) rfl ⟨⟨rk,rn,rs,ra,rl,rc,Lr,rfl,p1,p2,p3,ap.kept (Nat.le_trans HW.out.size hbb.size) (fun i hi hl=>⟨.inl hi,(hbb.block i (Nat.lt_of_lt_of_le hl hle)).trans (HW.out.block i hl)⟩) _ _ _ p4⟩,hbb⟩
theorem oJ {env:ByteArray→Option Th} {B:Nat} (w0 w:World) (k vk vn:Int) (vs:ByteArray) (va:Option Addr) (vl vc:Nat) (nm:ByteArray) (a:Option Addr) (l c:Nat) (Lv:List T) (A:List Tm) (bm m bk:Nat) (hw:Below w0.heap.size w0 w) (hB:B≤w0.heap.size) (hT:bD B w0) (ht:bd w0 k vk vn vs va vl vc nm a l c Lv A) (hn:bI w0 m env) (hb:dr w0 bm bk) (hk:k=4) (hnm:nm=⟨#[116,121,112,101]⟩) (y:Tm) (hA:A = [y]) (x:Th) (hx:env y.name=some x):Calls Tryz.prog 18 #[.map (some bm),O #[I H k,I H vk,I H vn,C vs,D va vl vc,C nm,D a l c],.map (some m)] w fun e w'=>aL (fun i=>i<w0.heap.size) w w' (.node 3 0 x.typ []) e∧Below w.heap.size w w':=by
 subst hk
 subst hnm
 have hlen:=ht.args.len.1
 obtain⟨b,off,k1,vk1,vn1,vs1,va1,vl1,vc1,nm1,a1,l1,c1,Lv1,A1,ha,hbl,hd,⟨-,-,-,-,-,x5,-⟩,-⟩:=ht.args.at (i:=0) (by rw[hlen,hA];simp)
 subst ha
 rw[Nat.zero_mul,Nat.add_zero] at x5
 have e1:y = .node k1 (.node vk1 vn1 vs1 Lv1) nm1 A1:=by rw[hA] at hd;simpa using hd
 subst e1
 have hl:l=1:=by rw[hlen,hA];simp
 subst hl
 obtain⟨P,pa,pl,pc,hts,hpp,hpr,hlk⟩:=eA hn nm1 x hx
 have hb2:Below w.heap.size w ((w.alloc (J #[I H 4,I H vk,I H vn,C vs,D va vl vc,C ⟨#[116,121,112,101]⟩,D (some ⟨b,off,none⟩) 1 c] 33)).alloc (J #[I H 0,I H 0,C ⟨#[]⟩,D none 0 0] 30)):=((N _ _).alloc (M _) _).alloc (by simp) _
 have hw2:=hw.trans (hb2.mono hw.size)
 have hl0:=(hlk _ hw2).1
 have hl1:=rx ((w.alloc (J #[I H 4,I H vk,I H vn,C vs,D va vl vc,C ⟨#[116,121,112,101]⟩,D (some ⟨b,off,none⟩) 1 c] 33)).alloc (J #[I H 0,I H 0,C ⟨#[]⟩,D none 0 0] 30)) x.edge x.id x.typ pa pl pc
 have y5:((w.alloc (J #[I H 4,I H vk,I H vn,C vs,D va vl vc,C ⟨#[116,121,112,101]⟩,D (some ⟨b,off,none⟩) 1 c] 33)).alloc (J #[I H 0,I H 0,C ⟨#[]⟩,D none 0 0] 30)).cell? ⟨b,off+5,none⟩=_:=(hw2.cell (p:=⟨b,off+5,none⟩) hbl).trans x5
 have hbW:b<((w.alloc (J #[I H 4,I H vk,I H vn,C vs,D va vl vc,C ⟨#[116,121,112,101]⟩,D (some ⟨b,off,none⟩) 1 c] 33)).alloc (J #[I H 0,I H 0,C ⟨#[]⟩,D none 0 0] 30)).heap.size:=Nat.lt_of_lt_of_le hbl hw2.size
 have HTS:=aa hts
 clear ht hn hb hT hlk hw2 hb2 hpp hpr hts hd hA hlen hbl x5
 go_enter Tryz.func18,Tryz.ntmps18
 go_wp2_with fail
 have hbb:Below w.heap.size w ((w.alloc (J #[I H 4,I H vk,I H vn,C vs,D va vl vc,C ⟨#[116,121,112,101]⟩,D (some ⟨b,off,none⟩) 1 c] 33)).alloc (J #[I H 3,I H 0,C x.typ,D none 0 0] 30)):=((N _ _).alloc (M _) _).alloc (by simp) _
 exact bodyPost_ret (v:=O #[I H 3,I H 0,C x.typ,D none 0 0]) (by simp[results,Tryz.results18,go_sem]) rfl ⟨aL.flat _ _ _ HTS.out,hbb⟩
theorem ln (w:World):(zeroValue 84).run Tryz.prog w = .ok (O #[I H 0,.nilFunc]) w:=by kernel_rfl
theorem pB (w:World) (n:Int) (f:Value):(Instr.field 84 (O #[I H n,f]) 1).run Tryz.prog w = .ok f w:=by kernel_rfl
theorem rf {w:World} {bm bk:Nat} (hb:dr w bm bk) (nm:ByteArray) (i:Nat) (hi:bN nm=some i):(Instr.lookup 54 (.map (some bm)) (C nm) false).run Tryz.prog w = .ok (O #[I H (an i),jE bk i]) w:=by
 have r1:=bn (P:=Tryz.prog) (w:=w) Tryz.underlying54 Tryz.underlying9 hb.1 (by simpa using br bk) nm (ln w) false
 have e:bH nm (aC bk).toArray.toList=some (O #[I H (an i),jE bk i]):=by
  have:=ma nm bk
  rw[hi] at this
  simpa using this
 rw[e] at r1
 exact r1
theorem rZ (bk o:Nat) (ho:o≤15) (F:Nat) (caps:Array Value) (h:jE bk o = .func (.func F) #[] caps) (args:Array Value) (w:World):(callFunc F args).run Tryz.prog w = .ok (.enter F args) w:=by
 have:o=0∨o=1∨o=2∨o=3∨o=4∨o=5∨o=6∨o=7∨o=8∨o=9∨o=10∨o=11∨o=12∨o=13∨o=14∨o=15:=by omega
 rcases this with rfl | rfl | rfl | rfl | rfl | rfl | rfl | rfl | rfl | rfl | rfl | rfl | rfl | rfl | rfl | rfl<;>
  (cases h;show _=_;kernel_rfl)
theorem oK {env:ByteArray→Option Th} {B:Nat} (w0 w:World) (k vk vn:Int) (vs:ByteArray) (va:Option Addr) (vl vc:Nat) (nm:ByteArray) (a:Option Addr) (l c:Nat) (Lv:List T) (A:List Tm) (bm m bk:Nat) (hw:Below w0.heap.size w0 w) (hB:B≤w0.heap.size) (hT:bD B w0) (ht:bd w0 k vk vn vs va vl vc nm a l c Lv A) (hn:bI w0 m env) (hb:dr w0 bm bk) (hk:k=4) (hnt:(nm.toList == [116,121,112,101])=false) (o:Nat) (ho:bN nm=some o) (ho15:o≤15) (htk:an o = -1∨an o=A.length) (h30:A.length≤30) (G:Tm→T) (hcw:∀y ∈ A,Cw 6 (G y))
  (IH:∀(xk xvk xvn:Int) (xvs:ByteArray) (xva:Option Addr) (xvl xvc:Nat) (xnm:ByteArray) (xa:Option Addr) (xl xc:Nat) (Lv:List T) (A':List Tm),bd w0 xk xvk xvn xvs xva xvl xvc xnm xa xl xc Lv A'→.node xk (.node xvk xvn xvs Lv) xnm A' ∈ A→∀W,Below w0.heap.size w0 W→Calls Tryz.prog 18 #[.map (some bm),O #[I H xk,I H xvk,I H xvn,C xvs,D xva xvl xvc,C xnm,D xa xl xc],.map (some m)] W fun e w'=>aL (fun i=>i<w0.heap.size) W w' (G (.node xk (.node xvk xvn xvs Lv) xnm A')) e∧Below W.heap.size W w') :
  Calls Tryz.prog 18 #[.map (some bm),O #[I H k,I H vk,I H vn,C vs,D va vl vc,C nm,D a l c],.map (some m)] w fun e w'=>aL (fun i=>i<w0.heap.size) w w' (opF o (A.map G)) e∧Below w.heap.size w w':=by
 subst hk
 have hlen:=ht.args.len.1
 have hl30:l≤30:=by rw[hlen];exact h30
 obtain⟨i0,hi0,hiz,his,hib⟩:=dw
 have HI0:=aa hi0
 have HIZ:=aa hiz
 have HIS:=aa his
 have HIB:=aa hib
 have hb56:i0.bytes*l≤281474976710656:=by rw[hib];omega
 have hmx:l≤maxLen:=by unfold maxLen;omega
 have HAR:=aa ht.args
 have HLEN:=aa hlen
 have HIH:=aa IH
 have HCW:=aa hcw
 have HTK:=aa htk
 have HBK:=aa hb
 have HTB:=aa hT
 have HBB:=aa hB
 have h0:=ay w (J #[I H 4,I H vk,I H vn,C vs,D va vl vc,C nm,D a l c] 33) (J #[I H 0,I H 0,C ⟨#[]⟩,D none 0 0] 30)
 have h1:((w.alloc (J #[I H 4,I H vk,I H vn,C vs,D va vl vc,C nm,D a l c] 33)).alloc (J #[I H 0,I H 0,C ⟨#[]⟩,D none 0 0] 30)).heap[w.heap.size]? = some (J #[I H 4,I H vk,I H vn,C vs,D va vl vc,C nm,D a l c] 33 (0,0)):=by
  have hb:Below (w.heap.size+1) (w.alloc (J #[I H 4,I H vk,I H vn,C vs,D va vl vc,C nm,D a l c] 33)) ((w.alloc (J #[I H 4,I H vk,I H vn,C vs,D va vl vc,C nm,D a l c] 33)).alloc (J #[I H 0,I H 0,C ⟨#[]⟩,D none 0 0] 30)):=(N _ _).alloc (by simp) _
  exact(hb.block w.heap.size (by omega)).trans (ae w (J #[I H 4,I H vk,I H vn,C vs,D va vl vc,C nm,D a l c] 33))
 have hz:((w.alloc (J #[I H 4,I H vk,I H vn,C vs,D va vl vc,C nm,D a l c] 33)).alloc (J #[I H 0,I H 0,C ⟨#[]⟩,D none 0 0] 30)).heap.size=w.heap.size+2:=by simp
 have hb2:Below w.heap.size w ((w.alloc (J #[I H 4,I H vk,I H vn,C vs,D va vl vc,C nm,D a l c] 33)).alloc (J #[I H 0,I H 0,C ⟨#[]⟩,D none 0 0] 30)):=((N _ _).alloc (M _) _).alloc (by simp) _
 have H0:=aa h0
 have H1:=aa h1
 have HZ:=aa hz
 have HB:=aa hb2
 have HW:=aa hw
 have HSZ:=aa hw.size
 clear ht hn hb hT hi0 hiz his hib h0 h1 hz hb2 hw hlen IH hcw htk hB h30
 go_enter Tryz.func18,Tryz.ntmps18
 go_wp2_with (at_make;refine wpList_make_own _ rfl _ _ 28 rfl (w.heap.size+2) 30 i0 _ 4 Tryz.underlying28 HI0.out HIZ.out HIS.out .i64 .i64 (l:Int) l rfl rfl rfl hb56 hmx (by rw[HZ.out];exact M _) ?_)
 generalize (w.alloc (J #[I H 4,I H vk,I H vn,C vs,D va vl vc,C nm,D a l c] 33)).alloc (J #[I H 0,I H 0,C ⟨#[]⟩,D none 0 0] 30)=W at HB H0 H1 HZ ⊢
 intro w1 hown1 hg1
 have HK1:Hid (Below (w.heap.size+2) W w1):=(N _ _).grown hg1 (by rw[HZ.out];exact M _) (fun k hk=>by cases hk)
 have HT1:Hid (∀u,Below (w.heap.size+2) W u→u.heap[w.heap.size]? = some (J #[I H 4,I H vk,I H vn,C vs,D va vl vc,C nm,D a l c] 33 (0,0))):=fun u k=>(k.block w.heap.size (by omega)).trans H1.out
 have HR1:Hid (∀u,Below (w.heap.size+2) W u→u.heap[w.heap.size+1]? = some (J #[I H 0,I H 0,C ⟨#[]⟩,D none 0 0] 30 (0,0))):=fun u k=>(k.block (w.heap.size+1) (by omega)).trans H0.out
 have c6:=ac (HT1.out w1 HK1.out) 6
 have z1:w.heap.size<w1.heap.size:=lt_block' (HT1.out w1 HK1.out)
 simp at c6
 have HOWN1:=aa hown1
 clear hown1 hg1
 go_wp2_with fail
 clear c6 z1
 go_loopg [7,61] l (fun q s7 s61 wr=>∃(i:Nat) (xs:List VR) (ov:Value),i≤l∧l-i≤q∧ov=s7∧s61=I H i∧xs.length=i∧wr.ownsRow (w.heap.size+2) 30 4 ov i (bR xs)∧Below (w.heap.size+2) W wr∧aA (VR.In (fun j=>(j<w0.heap.size∨w.heap.size+2≤j)∧ov.ownBlock≠some j) wr) xs ((A.take i).map G))
 case atStart=>exact⟨0,[],_,Nat.zero_le _,by omega,rfl,rfl,rfl,HOWN1.out,HK1.out,by simpa using aA.nil⟩
 case round=>
  clear HOWN1 HK1
  obtain⟨i,xs,ov,hi,hg,rfl,rfl,hxs,hown,hbw,hpr⟩:=hrel
  have HOWN:=aa hown
  have HPR:=aa hpr
  have HXS:=aa hxs
  have hzw:w.heap.size+2≤wr.heap.size:=by have:=hbw.size;rw[HZ.out] at this;exact this
  have hw0:Below w.heap.size w wr:=HB.out.trans (hbw.mono (by omega))
  have hw00:Below w0.heap.size w0 wr:=HW.out.trans (hw0.mono HSZ.out)
  clear hown hpr hxs
  by_cases hlt:i<l
  ·obtain⟨b2,off2,xk,xvk,xvn,xvs,xva,xvl,xvc,xnm,xa,xl,xc,Lv',A',ha2,hbl2,hd,⟨e0,e1,e2,e3,e4,e5,e6⟩,hta⟩:=HAR.out.at (i:=i) hlt
   have HC:=aa (HIH.out xk xvk xvn xvs xva xvl xvc xnm xa xl xc Lv' A' hta (List.mem_of_mem_drop (i:=i) (by rw[hd];exact List.mem_cons_self ..)))
   have HTK2:Hid (A.take (i+1)=A.take i ++ [.node xk (.node xvk xvn xvs Lv') xnm A']):=by
    have e:A[i]? = some (.node xk (.node xvk xvn xvs Lv') xnm A'):=by
     have:=List.getElem?_drop (xs:=A) (i:=i) (j:=0)
     rw[hd] at this
     simpa using this.symm
    show A.take (i+1)=_
    rw[List.take_add_one,e]
    rfl
   subst ha2
   have q2:∀o,wr.cell? ⟨b2,o,none⟩=w0.cell? ⟨b2,o,none⟩:=fun o=>hw00.cell (p:=⟨b2,o,none⟩) hbl2
   have d0:=(q2 _).trans e0
   have d1:=(q2 _).trans e1
   have d2:=(q2 _).trans e2
   have d3:=(q2 _).trans e3
   have d4:=(q2 _).trans e4
   have d5:=(q2 _).trans e5
   have d6:=(q2 _).trans e6
   have hil:(i:Int)<l:=by omega
   have hkx:Below wr.heap.size wr (wr.alloc (J #[I H xk,I H xvk,I H xvn,C xvs,D xva xvl xvc,C xnm,D xa xl xc] 33)):=(N _ _).alloc (M _) _
   have hxb:=ae wr (J #[I H xk,I H xvk,I H xvn,C xvs,D xva xvl xvc,C xnm,D xa xl xc] 33)
   have hzx:(wr.alloc (J #[I H xk,I H xvk,I H xvn,C xvs,D xva xvl xvc,C xnm,D xa xl xc] 33)).heap.size=wr.heap.size+1:=by simp
   have HOX:=aa (HOWN.out.alloc (J #[I H xk,I H xvk,I H xvn,C xvs,D xva xvl xvc,C xnm,D xa xl xc] 33))
   have HBX:=aa (hbw.trans (hkx.mono hzw))
   have HKX:=aa hkx
   have HXB:=aa hxb
   have HZX:=aa hzx
   have HW0X:=aa (show Below w0.heap.size w0 (wr.alloc (J #[I H xk,I H xvk,I H xvn,C xvs,D xva xvl xvc,C xnm,D xa xl xc] 33)) from hw00.trans (hkx.mono hw00.size))
   clear e0 e1 e2 e3 e4 e5 e6 q2 hd hta hkx hxb hzx hbw hw0 hw00
   go_upto_region 13 with fail
   clear d0 d1 d2 d3 d4 d5 d6
   generalize wr.alloc (J #[I H xk,I H xvk,I H xvn,C xvs,D xva xvl xvc,C xnm,D xa xl xc] 33)=WX at HOX HBX HKX HXB HZX HW0X ⊢
   obtain⟨g0,g1,g2,g3,g4,g5,g6⟩:=bV HXB.out
   simp at g0 g1 g2 g3 g4 g5 g6
   have hwX:wr.heap.size<WX.heap.size:=by rw[HZX.out];omega
   have HBy:(i+1)*56≤140737488355328:=by omega
   have HBm:i+1≤maxLen:=by unfold maxLen;omega
   go_wp2_with (go_at_call 18;refine(HC.out _ HW0X.out).mono ?_)
   rintro e u1 ⟨⟨rk,rn,rs,ra,rl,rc,Lr,rfl,hre,hrlc,hrs,hrL⟩,k1⟩
   have hu1:WX.heap.size≤u1.heap.size:=k1.size
   have hown2:u1.ownsRow (w.heap.size+2) 30 4 ov i (bR xs):=da HOX.out (fun g _ hgl=>k1.block g hgl)
   have hu2:w.heap.size+2≤u1.heap.size:=by omega
   have K1:=aa k1
   have HRE:=aa hre
   have HRL:=aa hrL
   have HRS:=aa (show rl≤rc∧rs.size≤9223372036854775807 from⟨hrlc,hrs⟩)
   have HO2:=aa hown2
   clear k1 hre hrL hrlc hrs hown2 g0 g1 g2 g3 g4 g5 g6
   go_wp2_with (at_builtin;refine wpList_append_lies _ rfl _ _ 28 rfl (w.heap.size+2) 30 i0 _ 4 56 Tryz.underlying28 HI0.out HIZ.out HIS.out HIB.out rfl (by omega) ov i (bR xs) rfl (HO2.out.alloc _) ⟨u1.heap.size,0,none⟩ 1 1 ((⟨rk,rn,rs,ra,rl,rc⟩:VR).cells) rfl rfl (World.news_of_block (cs:=#[I H rk,I H rn,C rs,D ra rl rc]) (t:=30) (fr:=(0,0)) (ae u1 _)) (by simp[VR.cells,Value.oneCell']) (by omega) HBm HBy (by simp;omega) (u1.heap.size+1) (by simp) ?_)
   intro gg cap w5 hown5 hgrow hat5 hlt5
   have k1:=K1.out
   have hown2:=HO2.out
   have hle:=HSZ.out
   have hzx:=HZX.out
   have hb6:Below (w.heap.size+2) W w5:=((HBX.out.trans (k1.mono (by omega))).alloc (by omega) _).grown hgrow (by simp;omega) (fun j hj=>(hown2.lt j hj).1)
   have hsz5:u1.heap.size+1≤w5.heap.size:=by have:=hgrow.size;simpa using this
   have hkeep:∀j,ov.ownBlock≠some j→j<u1.heap.size→some gg≠some j∧w5.heap[j]? = u1.heap[j]?:=fun j hj hl=>by
    refine⟨fun e=>?_,?_⟩
    ·rcases hat5 with h | h
     ·exact hj (h.trans e)
     ·injection e with e;omega
    ·have q1:=hgrow.block j (by simp;omega) (Ne.symm hj)
     have q2:=((N u1.heap.size u1).alloc (M _) (J #[I H rk,I H rn,C rs,D ra rl rc] 30)).block j hl
     exact q1.trans q2
   have hold:aA (VR.In (fun j=>(j<w0.heap.size∨w.heap.size+2≤j)∧(Value.slice (some ⟨gg,0,none⟩) (i+1) cap).ownBlock≠some j) w5) xs ((A.take i).map G):=HPR.out.mono fun p x _ _ hp=>hp.kept (by omega) fun j hj hl=>by
    obtain⟨r1,r2⟩:=hkeep j hj.2 (by omega)
    exact⟨⟨hj.1,r1⟩,r2.trans ((k1.block j (by omega)).trans (HKX.out.block j hl))⟩
   have hnew:VR.In (fun j=>(j<w0.heap.size∨w.heap.size+2≤j)∧(Value.slice (some ⟨gg,0,none⟩) (i+1) cap).ownBlock≠some j) w5 (⟨rk,rn,rs,ra,rl,rc⟩:VR) (G (.node xk (.node xvk xvn xvs Lv') xnm A')):=⟨Lr,HRE.out,HRS.out.2,HRS.out.1,ap.kept (by omega) (fun j hj hl=>by
    have hn:ov.ownBlock≠some j:=fun e=>by
     have:=HOWN.out.lt j e
     rcases hj with h | h<;>omega
    obtain⟨r1,r2⟩:=hkeep j hn hl
    refine⟨⟨?_,r1⟩,r2⟩
    have hd:WX.drew.heap.size=WX.heap.size:=rfl
    rcases hj with h | h
    ·exact .inl h
    ·exact .inr (by omega)) _ _ _ HRL.out⟩
   have HP5:Hid (aA (VR.In (fun j=>(j<w0.heap.size∨w.heap.size+2≤j)∧(Value.slice (some ⟨gg,0,none⟩) (i+1) cap).ownBlock≠some j) w5) (xs ++ [(⟨rk,rn,rs,ra,rl,rc⟩:VR)]) ((A.take (i+1)).map G)):=by
    show aA _ _ _
    rw[HTK2.out,List.map_append]
    exact hold.snoc hnew
   have HOWN5:Hid (w5.ownsRow (w.heap.size+2) 30 4 (D (some ⟨gg,0,none⟩) (i+1) cap) (i+1) (bR (xs ++ [(⟨rk,rn,rs,ra,rl,rc⟩:VR)]))):=by
    rw[dR]
    exact hown5
   have HB6:=aa hb6
   clear hb6 hown5 hgrow hat5 hlt5 hown2 k1 hu1 hold hnew hkeep hsz5 hle hzx
   go_wp2_with fail
   go_roundg (l-(i+1))
   case measure=>omega
   case rel=>exact⟨i+1,xs ++ [(⟨rk,rn,rs,ra,rl,rc⟩:VR)],D (some ⟨gg,0,none⟩) (i+1) cap,by omega,by omega,rfl,by go_num,by rw[List.length_append,HXS.out];rfl,HOWN5.out,HB6.out,HP5.out⟩
  ·have hil:¬(i:Int)<l:=by omega
   have hll:i=l:=by omega
   have hA:A.take i=A:=List.take_of_length_le (by have:=HLEN.out;omega)
   have hpr:=HPR.out
   rw[hA] at hpr
   obtain⟨oa,ol,oc,hov⟩:∃oa ol oc,ov=D oa ol oc:=by
    rcases HOWN.out.2 with⟨e,_⟩ | ⟨g,cap,cur,e,_⟩
    ·exact⟨_,_,_,e⟩
    ·exact⟨_,_,_,e⟩
   subst hov
   have hr:=HOWN.out
   rw[←HXS.out] at hr
   obtain⟨v1,v2,v3⟩:=dI (n:=0) (A:=fun j=>j<w0.heap.size∨w.heap.size+2≤j) hr (fun g hg=>.inr (by omega)) (hpr.mono fun p x _ _ hp=>hp.kept (M _) fun j hj _=>⟨hj.1,rfl⟩)
   have hbk:=HBK.out.below hw00
   have hlk:=rf hbk nm o ho
   have hcv:=uI (fun j=>j<w0.heap.size∨w.heap.size+2≤j) (A.map G) oa ol oc wr B (Nat.le_trans HBB.out hw00.size) (HTB.out.below (hw00.mono HBB.out)) v3 v2 (fun t ht=>by
    obtain⟨y,hy,rfl⟩:=List.mem_map.1 ht
    exact HCW.out y hy) (by rw[List.length_map,←HLEN.out];exact hl30) bk hbk.2 o ho15 (by rw[List.length_map];exact HTK.out)
   obtain⟨F,caps,hF,hcv⟩:=hcv
   rw[hF] at hlk
   have hen:=rZ bk o ho15 F caps hF (#[D oa ol oc]++caps) wr
   have hfd:=pB wr (an o) (.func (.func F) #[] caps)
   have c5:=ac (HT1.out wr hbw) 5
   simp at c5
   have z5:w.heap.size<wr.heap.size:=by omega
   have HCV:=aa hcv
   have HRB:=aa (HR1.out wr hbw)
   have HW1:=aa hw0
   clear hbk hcv hpr hr v1 v2 v3 hbw hw0 hw00 hA HOWN HPR hF
   go_wp2_with (refine HCV.out.mono ?_)
   rintro e u1 ⟨rk,rn,rs,ra,rl,rc,Lr,rfl,hre,hrlc,hrs,hrL⟩ k1
   have hb1:=(k1.block (w.heap.size+1) (by omega)).trans HRB.out
   obtain⟨r0,r1,r2,r3⟩:=ai hb1
   obtain⟨fr0,fr1,fr2,fr3⟩:=aq hb1
   simp at r0 r1 r2 r3
   have hs1:w.heap.size+1<u1.heap.size:=lt_block' hb1
   have HB1:=aa hb1
   have HK2:=aa (af HW1.out k1)
   have HRE:=aa hre
   have HRL:=aa hrL
   have HRS:=aa (show rl≤rc∧rs.size≤9223372036854775807 from⟨hrlc,hrs⟩)
   have HZ1:=aa k1.size
   clear hb1 k1 hre hrL hrlc hrs
   go_wp2_with fail
   have eP:∀X:World,(((X.setCell ⟨w.heap.size+1,0,none⟩ (I H rk)).setCell ⟨w.heap.size+1,1,none⟩ (I H rn)).setCell ⟨w.heap.size+1,2,none⟩ (C rs)).setCell ⟨w.heap.size+1,3,none⟩ (D ra rl rc)=au X (w.heap.size+1) 0 [I H rk,I H rn,C rs,D ra rl rc]:=fun _=>rfl
   rw[eP]
   have E:=dh HB1.out rfl (I H rk) (I H rn) (C rs) (D ra rl rc)
   have hbb:Below w.heap.size w (au u1 (w.heap.size+1) 0 [I H rk,I H rn,C rs,D ra rl rc]):=HK2.out.trans ((aE (w.heap.size+1) _ _ u1).mono (by omega))
   have hoth:∀j,j≠w.heap.size+1→(au u1 (w.heap.size+1) 0 [I H rk,I H rn,C rs,D ra rl rc]).heap[j]? = u1.heap[j]?:=fun j hj=>aB _ _ _ _ j hj
   have hsz:(au u1 (w.heap.size+1) 0 [I H rk,I H rn,C rs,D ra rl rc]).heap.size=u1.heap.size:=aD _ _ _ _
   generalize au u1 (w.heap.size+1) 0 [I H rk,I H rn,C rs,D ra rl rc]=Y at E hbb hoth hsz ⊢
   obtain⟨t0,t1,t2,t3⟩:=ai E
   simp at t0 t1 t2 t3
   have hkp:∀j,((j<w0.heap.size∨w.heap.size+2≤j)∨wr.heap.size≤j)→j<u1.heap.size→(j<w0.heap.size∨w.heap.size≤j)∧Y.heap[j]? = u1.heap[j]?:=fun j hj hl=>by
    have:=HSZ.out
    refine⟨by omega,hoth j (by omega)⟩
   have HLR:ap (fun i=>i<w0.heap.size∨w.heap.size≤i) Y Lr ra rl:=ap.kept (Nat.le_of_eq hsz.symm) hkp _ _ _ HRL.out
   exact bodyPost_ret (v:=O #[I H rk,I H rn,C rs,D ra rl rc]) (by simp[results,Tryz.results18,go_sem,t0,t1,t2,t3]) rfl ⟨⟨rk,rn,rs,ra,rl,rc,Lr,rfl,HRE.out,HRS.out.1,HRS.out.2,HLR⟩,hbb⟩
theorem gp {a b:ByteArray} (h:(a==b)=true):a=b:=by
 obtain⟨a⟩:=a
 obtain⟨b⟩:=b
 have h:(a==b)=true:=h
 rw[eq_of_beq h]
theorem oB {a:ByteArray} {l:List UInt8} (h:a.toList=l):a=⟨l.toArray⟩:=by
 obtain⟨d⟩:=a
 rw[ByteArray.toList_eq] at h
 subst h
 rfl
theorem rd:bN ⟨#[116,121,112,101]⟩=some 16:=by decide
theorem tx {nm:ByteArray} (h:bN nm=some 16):nm=⟨#[116,121,112,101]⟩:=by
 have key:∀(ks:List (List UInt8)) (j i:Nat),fK nm ks j=some i→∃x,ks[i-j]? = some x∧nm=⟨x.toArray⟩∧j≤i:=by
  intro ks
  induction ks with
  | nil=>intro j i h;cases h
  | cons x ks ih=>
    intro j i h
    unfold fK at h
    split at h
    ·rename_i hx
     injection h with h
     subst h
     exact⟨x,by simp,gp hx,M _⟩
    ·obtain⟨y,h1,h2,h3⟩:=ih (j+1) i h
     refine⟨y,?_,h2,by omega⟩
     rw[show i-j=(i-(j+1))+1 by omega,List.getElem?_cons_succ]
     exact h1
 obtain⟨x,h1,h2,_⟩:=key dp 0 16 h
 have:x = [116,121,112,101]:=by
  have e:dp[16-0]? = some [116,121,112,101]:=rfl
  rw[e] at h1
  injection h1 with h1
  exact h1.symm
 subst this
 exact h2
theorem jm {env:ByteArray→Option Th} {d:Nat} {y:Tm} (h:aS env d y) (hk:y.kind=2):∃x,env y.name=some x:=by
 obtain⟨k,v,nm,A⟩:=y
 cases d with
 | zero=>exact h.elim
 | succ d=>
   obtain⟨_,h⟩:=h
   have hk:k=2:=hk
   subst hk
   rcases h with⟨h,_⟩ | ⟨_,_,_,h⟩ | ⟨h,_⟩ | ⟨h,_⟩
   ·omega
   ·exact Option.isSome_iff_exists.1 h
   ·omega
   ·omega
theorem lp {env:ByteArray→Option Th} {B:Nat} (he:eK env):∀(d:Nat) (w0 w:World) (k vk vn:Int) (vs:ByteArray) (va:Option Addr) (vl vc:Nat) (nm:ByteArray) (a:Option Addr) (l c:Nat) (Lv:List T) (A:List Tm) (bm m bk:Nat) (hw:Below w0.heap.size w0 w) (hB:B≤w0.heap.size) (hT:bD B w0) (ht:bd w0 k vk vn vs va vl vc nm a l c Lv A) (hn:bI w0 m env) (hb:dr w0 bm bk),aS env d (.node k (.node vk vn vs Lv) nm A)→Calls Tryz.prog 18 #[.map (some bm),O #[I H k,I H vk,I H vn,C vs,D va vl vc,C nm,D a l c],.map (some m)] w fun e w'=>aL (fun i=>i<w0.heap.size) w w' (aI env d (.node k (.node vk vn vs Lv) nm A)) e∧Below w.heap.size w w'
 | 0,w0,w,k,vk,vn,vs,va,vl,vc,nm,a,l,c,Lv,A,bm,m,bk,hw,hB,hT,ht,hn,hb,h=>h.elim
 | d+1,w0,w,k,vk,vn,vs,va,vl,vc,nm,a,l,c,Lv,A,bm,m,bk,hw,hB,hT,ht,hn,hb,h=>by
   have hcw:=mH he d
   obtain⟨_,h⟩:=h
   rcases h with⟨hk,_,_,_,_⟩ | ⟨hk,_,_,hx⟩ | ⟨hk,_,y,hA,hy,hr⟩ | ⟨hk,h30,ha,i,hi,htk,_,h16⟩
   ·have e:aI env (d+1) (.node k (.node vk vn vs Lv) nm A) = .node vk vn vs Lv:=by unfold aI;rw[if_pos hk]
    rw[e]
    exact m8 w0 w k vk vn vs va vl vc nm a l c Lv A bm m bk hw hB hT ht hn hb hk
   ·obtain⟨x,hx⟩:=Option.isSome_iff_exists.1 hx
    have e:aI env (d+1) (.node k (.node vk vn vs Lv) nm A)=eL x.id:=by
     unfold aI
     rw[if_neg (by omega),if_pos hk,hx]
     rfl
    rw[e]
    exact qM w0 w k vk vn vs va vl vc nm a l c Lv A bm m bk hw hB hT ht hn hb hk x hx
   ·obtain⟨x,hx⟩:=jm hr hy
    have e:aI env (d+1) (.node k (.node vk vn vs Lv) nm A)=cR nm x:=by
     unfold aI
     rw[if_neg (by omega),if_neg (by omega),if_pos hk,hA]
     show cR nm ((env y.name).getD Th.zero)=_
     rw[hx]
     rfl
    rw[e]
    exact m7 w0 w k vk vn vs va vl vc nm a l c Lv A bm m bk hw hB hT ht hn hb hk y hA x hx
   ·have e:aI env (d+1) (.node k (.node vk vn vs Lv) nm A)=fj env A (A.map (aI env d)) (some i):=by
     unfold aI
     rw[if_neg (by omega),if_neg (by omega),if_neg (by omega),hi]
    rw[e]
    by_cases hi16:i=16
    ·subst hi16
     obtain⟨y,r,hA,hy,_⟩:=h16 rfl
     have hr:r = []:=by
      rcases htk with h | h
      ·exact absurd h (by decide)
      ·have e:an 16=1:=by decide
       rw[e,hA] at h
       simp at h
       exact List.length_eq_zero_iff.1 (by omega)
     subst hr
     obtain⟨x,hx⟩:=jm (ha y (by rw[hA];exact List.mem_cons_self ..)) hy
     have e2:fj env A (A.map (aI env d)) (some 16) = .node 3 0 x.typ []:=by
      unfold fj
      rw[hA]
      show T.node 3 0 ((env y.name).getD Th.zero).typ []=_
      rw[hx]
      rfl
     rw[e2]
     exact oJ w0 w k vk vn vs va vl vc nm a l c Lv A bm m bk hw hB hT ht hn hb hk (tx hi) y hA x hx
    ·have hlt:=ir hi
     have e2:fj env A (A.map (aI env d)) (some i)=opF i (A.map (aI env d)):=by
      unfold fj
      exact if_neg hi16
     rw[e2]
     have hnt:(nm.toList == [116,121,112,101])=false:=by
      cases hb:(nm.toList == [116,121,112,101]) with
      | false=>rfl
      | true=>
        have:=oB (eq_of_beq hb)
        rw[this] at hi
        have h2:=rd
        rw[show(⟨[116,121,112,101].toArray⟩:ByteArray)=⟨#[116,121,112,101]⟩ from rfl,h2] at hi
        injection hi with hi
        exact absurd hi.symm hi16
     exact oK w0 w k vk vn vs va vl vc nm a l c Lv A bm m bk hw hB hT ht hn hb hk hnt i hi (by omega) htk h30 (aI env d) (fun y hy=>hcw y (ha y hy)) fun xk xvk xvn xvs xva xvl xvc xnm xa xl xc Lv' A' hta hm W hW=>lp he d w0 W xk xvk xvn xvs xva xvl xvc xnm xa xl xc Lv' A' bm m bk hW hB hT hta hn hb (ha _ hm)
end Go.Proofs.YtijjpoohhgapoaaGreatDoor

import Derived.Test.YtijjpoohhgapoaaGreatDoorVQAH
import Derived.Test.YtijjpoohhgapoaaGreatDoorVQAI
namespace Go.Proofs.YtijjpoohhgapoaaGreatDoor
open Go.RowKit
set_option linter.unusedVariables false
set_option maxHeartbeats 4000000
set_option maxRecDepth 100000
open IntKind renaming i64 → B
open Value renaming int → C, string → D, slice → F, agg → K, pointer → M
open Nat renaming le_refl → G
open Obj renaming cells → H
open RowKit.Below renaming refl → I
open Ending renaming returned → J
theorem lt_block' {w:World} {b:Nat} {o:Obj} (h:w.heap[b]? = some o):b<w.heap.size:=(Array.getElem?_eq_some_iff.1 h).1
def on2 (g:T→T→T):List T→T
 | x::y::_=>g x y
 | _=>aw
def cI (x:Int):Int × Int:=if x=2 then (0,0) else (1,x)
def cq (x y:T):T:=.node (cI (aU x y)).1 (cI (aU x y)).2 ⟨#[]⟩ []
theorem fY (x:Int):eO x=vC (cI x).1 (cI x).2 ⟨#[]⟩ none 0 0:=by
 unfold eO cI
 split<;>rfl
def bz (x y:T):Int × Int:=
 match x,y with
 | .node k _ _ _,.node k' _ _ _=>if k=k'∧(k=2∨k=3) then (1,if cY x y<0 then 1 else 0) else (0,0)
def cy (x y:T):T:=.node (bz x y).1 (bz x y).2 ⟨#[]⟩ []
theorem nV (k n:Int) (s:ByteArray) (a:Option Addr) (l c:Nat) (k' n':Int) (s':ByteArray) (a':Option Addr) (l' c':Nat) (L L':List T) (w:World) (hL:am w L a l) (hL':am w L' a' l') (hc:l≤c) (hc':l'≤c') (hw:wtL L≤1099511627776) :
 Calls Tryz.prog 43 #[vC k n s a l c,vC k' n' s' a' l' c'] w fun e w'=>e=J (vC (bz (.node k n s L) (.node k' n' s' L')).1 (bz (.node k n s L) (.node k' n' s' L')).2 ⟨#[]⟩ none 0 0)∧Below w.heap.size w w':=by
 by_cases h:k=k'∧(k=2∨k=3)
 ·obtain⟨rfl,hk⟩:=h
  have e1:bz (.node k n s L) (.node k n' s' L')=(1,if cY (.node k n s L) (.node k n' s' L')<0 then 1 else 0):=by simp[bz,hk]
  rw[e1]
  exact sq k n s a l c n' s' a' l' c' (cY (.node k n s L) (.node k n' s' L')) w hk (fun W kk=>lK k n s a l c k n' s' a' l' c' L L' W (am.below kk _ _ _ hL) (am.below kk _ _ _ hL') hc hc' hw)
 ·have e1:bz (.node k n s L) (.node k' n' s' L')=(0,0):=by simp only[bz,if_neg h]
  rw[e1]
  refine rh k n s a l c k' n' s' a' l' c' w ?_
  by_cases hk:k=k'
  ·exact .inr ⟨fun e=>h ⟨hk,.inl e⟩,fun e=>h ⟨hk,.inr e⟩⟩
  ·exact .inl hk
theorem qU (A:Nat→Prop) (L:List T) (a:Option Addr) (l c:Nat) (w:World) (hL:ap A w L a l) (hl:l=2) (hwt:∀t ∈ L,wtT t≤1099511627000):Calls Tryz.prog 40 #[F a l c] w fun e w'=>aL A w w' (on2 cq L) e∧Below w.heap.size w w':=by
 have hlen:=hL.len.1
 obtain⟨b,off,k0,n0,s0,L0,a0,l0,c0,ha,hAb,hbl,hd0,x0,x1,x2,x3,hlc0,hs0,hL0⟩:=hL.at (i:=0) (by omega)
 obtain⟨b',off',k1,n1,s1,L1,a1,l1,c1,ha',-,-,hd1,z0,z1,z2,z3,hlc1,hs1,hL1⟩:=hL.at (i:=1) (by omega)
 subst ha
 injection ha' with ha'
 injection ha' with e1 e2
 subst e1 e2
 rw[Nat.zero_mul,Nat.add_zero] at x0 x1 x2 x3
 rw[Nat.one_mul] at z0 z1 z2 z3
 have hLL:L = .node k0 n0 s0 L0 :: .node k1 n1 s1 L1::L.drop 2:=by
  have e0:L = .node k0 n0 s0 L0::L.drop 1:=by simpa using hd0
  rw[hd1] at e0
  exact e0
 have e1:on2 cq L = .node (cI (aU (.node k0 n0 s0 L0) (.node k1 n1 s1 L1))).1 (cI (aU (.node k0 n0 s0 L0) (.node k1 n1 s1 L1))).2 ⟨#[]⟩ []:=by rw[hLL];rfl
 have hw0:=hwt (.node k0 n0 s0 L0) (by rw[hLL];exact List.mem_cons_self ..)
 obtain⟨q1,hq1⟩:∃z,z=(cI (aU (.node k0 n0 s0 L0) (.node k1 n1 s1 L1))).1:=⟨_,rfl⟩
 obtain⟨q2,hq2⟩:∃z,z=(cI (aU (.node k0 n0 s0 L0) (.node k1 n1 s1 L1))).2:=⟨_,rfl⟩
 rw[e1,←hq1,←hq2]
 have HC:Hid (∀W,Below w.heap.size w W→Calls Tryz.prog 41 #[vC k0 n0 s0 a0 l0 c0,vC k1 n1 s1 a1 l1 c1] W fun e w'=>e=J (vC q1 q2 ⟨#[]⟩ none 0 0)∧Below W.heap.size W w'):=fun W kk=>by
  have:=nk k0 n0 s0 a0 l0 c0 k1 n1 s1 a1 l1 c1 L0 L1 W (ap.lies _ _ _ (hL0.below kk)) (ap.lies _ _ _ (hL1.below kk)) hlc0 hlc1 hs0 hs1 (by unfold wtT at hw0;omega)
  rw[fY,←hq1,←hq2] at this
  exact this
 clear e1 hq1 hq2 hw0 hwt
 have hy:=ae w (H #[C B 0,C B 0,D ⟨#[]⟩,F none 0 0] 30)
 have hz:(w.alloc (H #[C B 0,C B 0,D ⟨#[]⟩,F none 0 0] 30)).heap.size=w.heap.size+1:=by simp
 have hb0:Below w.heap.size w (w.alloc (H #[C B 0,C B 0,D ⟨#[]⟩,F none 0 0] 30)):=(I _ _).alloc (G _) _
 have HY:=aa hy
 have HZ:=aa hz
 have HB:=aa hb0
 have HS0:Hid (∀W',Below w.heap.size w W'→(W'.cell? ⟨b,off,none⟩=some (C B k0)∧W'.cell? ⟨b,off+1,none⟩=some (C B n0)∧W'.cell? ⟨b,off+2,none⟩=some (D s0)∧W'.cell? ⟨b,off+3,none⟩=some (F a0 l0 c0))∧(W'.cell? ⟨b,off+4,none⟩=some (C B k1)∧W'.cell? ⟨b,off+5,none⟩=some (C B n1)∧W'.cell? ⟨b,off+6,none⟩=some (D s1)∧W'.cell? ⟨b,off+7,none⟩=some (F a1 l1 c1))):=fun W' kk=>by
  have q:∀o,W'.cell? ⟨b,o,none⟩=w.cell? ⟨b,o,none⟩:=fun o=>kk.cell (p:=⟨b,o,none⟩) hbl
  exact⟨⟨(q _).trans x0,(q _).trans x1,(q _).trans x2,(q _).trans x3⟩,⟨(q _).trans z0,(q _).trans z1,(q _).trans z2,(q _).trans z3⟩⟩
 clear x0 x1 x2 x3 z0 z1 z2 z3 hd0 hd1 hL0 hL1 hL hLL hlen hy hz hb0 hlc0 hlc1
 subst hl
 go_enter Tryz.func40,Tryz.ntmps40
 go_upto_region 1 with fail
 generalize w.alloc (H #[C B 0,C B 0,D ⟨#[]⟩,F none 0 0] 30)=W at HB HY HZ ⊢
 have HS:Hid (∀W',Below W.heap.size W W'→(W'.cell? ⟨b,off,none⟩=some (C B k0)∧W'.cell? ⟨b,off+1,none⟩=some (C B n0)∧W'.cell? ⟨b,off+2,none⟩=some (D s0)∧W'.cell? ⟨b,off+3,none⟩=some (F a0 l0 c0))∧(W'.cell? ⟨b,off+4,none⟩=some (C B k1)∧W'.cell? ⟨b,off+5,none⟩=some (C B n1)∧W'.cell? ⟨b,off+6,none⟩=some (D s1)∧W'.cell? ⟨b,off+7,none⟩=some (F a1 l1 c1))):=fun W' kk=>HS0.out W' (af HB.out kk)
 have D0:Below W.heap.size W W.drew:=(I _ _).drew
 obtain⟨⟨x0,x1,x2,x3⟩,⟨z0,z1,z2,z3⟩⟩:=HS.out W (I _ _)
 have hbW:b<W.heap.size:=by rw[HZ.out];omega
 have HRB:Hid (∀u,Below W.heap.size W u→u.heap[w.heap.size]? = some (H #[C B 0,C B 0,D ⟨#[]⟩,F none 0 0] 30 (0,0))):=fun u k=>(k.block w.heap.size (by rw[HZ.out];omega)).trans HY.out
 have HST:Hid (∀u,Below W.heap.size W u→∀v0 v1 v2 v3:Value,(((((u.setCell ⟨w.heap.size,0,none⟩ v0).setCell ⟨w.heap.size,1,none⟩ v1).setCell ⟨w.heap.size,2,none⟩ v2).setCell ⟨w.heap.size,3,none⟩ v3).cell? ⟨b,off,none⟩=some (C B k0)∧((((u.setCell ⟨w.heap.size,0,none⟩ v0).setCell ⟨w.heap.size,1,none⟩ v1).setCell ⟨w.heap.size,2,none⟩ v2).setCell ⟨w.heap.size,3,none⟩ v3).cell? ⟨b,off+1,none⟩=some (C B n0)∧((((u.setCell ⟨w.heap.size,0,none⟩ v0).setCell ⟨w.heap.size,1,none⟩ v1).setCell ⟨w.heap.size,2,none⟩ v2).setCell ⟨w.heap.size,3,none⟩ v3).cell? ⟨b,off+2,none⟩=some (D s0)∧((((u.setCell ⟨w.heap.size,0,none⟩ v0).setCell ⟨w.heap.size,1,none⟩ v1).setCell ⟨w.heap.size,2,none⟩ v2).setCell ⟨w.heap.size,3,none⟩ v3).cell? ⟨b,off+3,none⟩=some (F a0 l0 c0))∧(((((u.setCell ⟨w.heap.size,0,none⟩ v0).setCell ⟨w.heap.size,1,none⟩ v1).setCell ⟨w.heap.size,2,none⟩ v2).setCell ⟨w.heap.size,3,none⟩ v3).cell? ⟨b,off+4,none⟩=some (C B k1)∧((((u.setCell ⟨w.heap.size,0,none⟩ v0).setCell ⟨w.heap.size,1,none⟩ v1).setCell ⟨w.heap.size,2,none⟩ v2).setCell ⟨w.heap.size,3,none⟩ v3).cell? ⟨b,off+5,none⟩=some (C B n1)∧((((u.setCell ⟨w.heap.size,0,none⟩ v0).setCell ⟨w.heap.size,1,none⟩ v1).setCell ⟨w.heap.size,2,none⟩ v2).setCell ⟨w.heap.size,3,none⟩ v3).cell? ⟨b,off+6,none⟩=some (D s1)∧((((u.setCell ⟨w.heap.size,0,none⟩ v0).setCell ⟨w.heap.size,1,none⟩ v1).setCell ⟨w.heap.size,2,none⟩ v2).setCell ⟨w.heap.size,3,none⟩ v3).cell? ⟨b,off+7,none⟩=some (F a1 l1 c1))):=fun u kk v0 v1 v2 v3=>HS0.out _ ((((((af HB.out kk).setCell (p:=⟨w.heap.size,0,none⟩) (G _) _).setCell (p:=⟨w.heap.size,1,none⟩) (G _) _).setCell (p:=⟨w.heap.size,2,none⟩) (G _) _).setCell (p:=⟨w.heap.size,3,none⟩) (G _) _))
 go_region_held3 (fun W'=>(W'.cell? ⟨b,off,none⟩=some (C B k0)∧W'.cell? ⟨b,off+1,none⟩=some (C B n0)∧W'.cell? ⟨b,off+2,none⟩=some (D s0)∧W'.cell? ⟨b,off+3,none⟩=some (F a0 l0 c0))∧(W'.cell? ⟨b,off+4,none⟩=some (C B k1)∧W'.cell? ⟨b,off+5,none⟩=some (C B n1)∧W'.cell? ⟨b,off+6,none⟩=some (D s1)∧W'.cell? ⟨b,off+7,none⟩=some (F a1 l1 c1)))
  (first
    | with_reducible exact HS.out _ k2
    | with_reducible exact HS.out _ k1
    | with_reducible exact HS.out _ D0
    | with_reducible exact HST.out _ k2 _ _ _ _
    | with_reducible exact HST.out _ k1 _ _ _ _
    | exact⟨⟨x0,x1,x2,x3⟩,⟨z0,z1,z2,z3⟩⟩
    | go_keep)
  (first
    | (go_at_call 41;go_fit (HC.out W.drew (af HB.out D0));rintro e u1 ⟨rfl,h1⟩;have k1:Below W.heap.size W u1:=D0.trans h1;have hb1:=HRB.out u1 k1;have r0:=ac hb1 0;have r1:=ac hb1 1;have r2:=ac hb1 2;have r3:=ac hb1 3;have f0:=aj hb1 0;have f1:=aj hb1 1;have f2:=aj hb1 2;have f3:=aj hb1 3;simp at r0 r1 r2 r3;have hsz1:w.heap.size<u1.heap.size:=lt_block' hb1))
 all_goals
  go_wp2_with fail
  have eP:∀X:World,(((X.setCell ⟨w.heap.size,0,none⟩ (C B q1)).setCell ⟨w.heap.size,1,none⟩ (C B q2)).setCell ⟨w.heap.size,2,none⟩ (D ⟨#[]⟩)).setCell ⟨w.heap.size,3,none⟩ (F none 0 0)=au X (w.heap.size) 0 [C B q1,C B q2,D ⟨#[]⟩,F none 0 0]:=fun _=>rfl
  rw[eP]
  have E:=dh (HRB.out u1 k1) rfl (C B q1) (C B q2) (D ⟨#[]⟩) (F none 0 0)
  have hbb:Below w.heap.size w (au u1 (w.heap.size) 0 [C B q1,C B q2,D ⟨#[]⟩,F none 0 0]):=(af HB.out k1).trans ((aE (w.heap.size) _ _ u1).mono (G _))
  have hoth:∀j,j≠w.heap.size→(au u1 (w.heap.size) 0 [C B q1,C B q2,D ⟨#[]⟩,F none 0 0]).heap[j]? = u1.heap[j]?:=fun j hj=>aB _ _ _ _ j hj
  have hsz:(au u1 (w.heap.size) 0 [C B q1,C B q2,D ⟨#[]⟩,F none 0 0]).heap.size=u1.heap.size:=aD _ _ _ _
  generalize au u1 (w.heap.size) 0 [C B q1,C B q2,D ⟨#[]⟩,F none 0 0]=Y at E hbb hoth hsz ⊢
  obtain⟨t0,t1,t2,t3⟩:=ai E
  simp at t0 t1 t2 t3
  exact bodyPost_ret (v:=K #[C B q1,C B q2,D ⟨#[]⟩,F none 0 0]) (by simp[results,Tryz.results40,go_sem,t0,t1,t2,t3]) rfl ⟨aL.flat _ _ _ (by decide),hbb⟩
theorem ri (A:Nat→Prop) (L:List T) (a:Option Addr) (l c:Nat) (w:World) (hL:ap A w L a l) (hl:l=2) (hwt:∀t ∈ L,wtT t≤1099511627000):Calls Tryz.prog 42 #[F a l c] w fun e w'=>aL A w w' (on2 cy L) e∧Below w.heap.size w w':=by
 have hlen:=hL.len.1
 obtain⟨b,off,k0,n0,s0,L0,a0,l0,c0,ha,hAb,hbl,hd0,x0,x1,x2,x3,hlc0,hs0,hL0⟩:=hL.at (i:=0) (by omega)
 obtain⟨b',off',k1,n1,s1,L1,a1,l1,c1,ha',-,-,hd1,z0,z1,z2,z3,hlc1,hs1,hL1⟩:=hL.at (i:=1) (by omega)
 subst ha
 injection ha' with ha'
 injection ha' with e1 e2
 subst e1 e2
 rw[Nat.zero_mul,Nat.add_zero] at x0 x1 x2 x3
 rw[Nat.one_mul] at z0 z1 z2 z3
 have hLL:L = .node k0 n0 s0 L0 :: .node k1 n1 s1 L1::L.drop 2:=by
  have e0:L = .node k0 n0 s0 L0::L.drop 1:=by simpa using hd0
  rw[hd1] at e0
  exact e0
 have hw0:=hwt (.node k0 n0 s0 L0) (by rw[hLL];simp)
 obtain⟨q1,hq1⟩:∃z,z=(bz (.node k0 n0 s0 L0) (.node k1 n1 s1 L1)).1:=⟨_,rfl⟩
 obtain⟨q2,hq2⟩:∃z,z=(bz (.node k0 n0 s0 L0) (.node k1 n1 s1 L1)).2:=⟨_,rfl⟩
 have HC:Hid (∀W,Below w.heap.size w W→Calls Tryz.prog 43 #[vC k0 n0 s0 a0 l0 c0,vC k1 n1 s1 a1 l1 c1] W fun e w'=>e=J (vC q1 q2 ⟨#[]⟩ none 0 0)∧Below W.heap.size W w'):=fun W kk=>by
  have:=nV k0 n0 s0 a0 l0 c0 k1 n1 s1 a1 l1 c1 L0 L1 W (ap.lies _ _ _ (hL0.below kk)) (ap.lies _ _ _ (hL1.below kk)) hlc0 hlc1 (by unfold wtT at hw0;omega)
  rw[←hq1,←hq2] at this
  exact this
 have e1:on2 cy L = .node (bz (.node k0 n0 s0 L0) (.node k1 n1 s1 L1)).1 (bz (.node k0 n0 s0 L0) (.node k1 n1 s1 L1)).2 ⟨#[]⟩ []:=by rw[hLL];rfl
 rw[e1,←hq1,←hq2]
 clear e1 hq1 hq2 hw0 hwt
 have hy:=ae w (H #[C B 0,C B 0,D ⟨#[]⟩,F none 0 0] 30)
 have hz:(w.alloc (H #[C B 0,C B 0,D ⟨#[]⟩,F none 0 0] 30)).heap.size=w.heap.size+1:=by simp
 have hb0:Below w.heap.size w (w.alloc (H #[C B 0,C B 0,D ⟨#[]⟩,F none 0 0] 30)):=(I _ _).alloc (G _) _
 have HY:=aa hy
 have HZ:=aa hz
 have HB:=aa hb0
 have HS0:Hid (∀W',Below w.heap.size w W'→(W'.cell? ⟨b,off,none⟩=some (C B k0)∧W'.cell? ⟨b,off+1,none⟩=some (C B n0)∧W'.cell? ⟨b,off+2,none⟩=some (D s0)∧W'.cell? ⟨b,off+3,none⟩=some (F a0 l0 c0))∧(W'.cell? ⟨b,off+4,none⟩=some (C B k1)∧W'.cell? ⟨b,off+5,none⟩=some (C B n1)∧W'.cell? ⟨b,off+6,none⟩=some (D s1)∧W'.cell? ⟨b,off+7,none⟩=some (F a1 l1 c1))):=fun W' kk=>by
  have q:∀o,W'.cell? ⟨b,o,none⟩=w.cell? ⟨b,o,none⟩:=fun o=>kk.cell (p:=⟨b,o,none⟩) hbl
  exact⟨⟨(q _).trans x0,(q _).trans x1,(q _).trans x2,(q _).trans x3⟩,⟨(q _).trans z0,(q _).trans z1,(q _).trans z2,(q _).trans z3⟩⟩
 clear x0 x1 x2 x3 z0 z1 z2 z3 hd0 hd1 hL0 hL1 hL hLL hlen hy hz hb0 hlc0 hlc1
 subst hl
 go_enter Tryz.func42,Tryz.ntmps42
 go_upto_region 1 with fail
 generalize w.alloc (H #[C B 0,C B 0,D ⟨#[]⟩,F none 0 0] 30)=W at HB HY HZ ⊢
 have HS:Hid (∀W',Below W.heap.size W W'→(W'.cell? ⟨b,off,none⟩=some (C B k0)∧W'.cell? ⟨b,off+1,none⟩=some (C B n0)∧W'.cell? ⟨b,off+2,none⟩=some (D s0)∧W'.cell? ⟨b,off+3,none⟩=some (F a0 l0 c0))∧(W'.cell? ⟨b,off+4,none⟩=some (C B k1)∧W'.cell? ⟨b,off+5,none⟩=some (C B n1)∧W'.cell? ⟨b,off+6,none⟩=some (D s1)∧W'.cell? ⟨b,off+7,none⟩=some (F a1 l1 c1))):=fun W' kk=>HS0.out W' (af HB.out kk)
 have D0:Below W.heap.size W W.drew:=(I _ _).drew
 obtain⟨⟨x0,x1,x2,x3⟩,⟨z0,z1,z2,z3⟩⟩:=HS.out W (I _ _)
 have hbW:b<W.heap.size:=by rw[HZ.out];omega
 have HRB:Hid (∀u,Below W.heap.size W u→u.heap[w.heap.size]? = some (H #[C B 0,C B 0,D ⟨#[]⟩,F none 0 0] 30 (0,0))):=fun u k=>(k.block w.heap.size (by rw[HZ.out];omega)).trans HY.out
 have HST:Hid (∀u,Below W.heap.size W u→∀v0 v1 v2 v3:Value,(((((u.setCell ⟨w.heap.size,0,none⟩ v0).setCell ⟨w.heap.size,1,none⟩ v1).setCell ⟨w.heap.size,2,none⟩ v2).setCell ⟨w.heap.size,3,none⟩ v3).cell? ⟨b,off,none⟩=some (C B k0)∧((((u.setCell ⟨w.heap.size,0,none⟩ v0).setCell ⟨w.heap.size,1,none⟩ v1).setCell ⟨w.heap.size,2,none⟩ v2).setCell ⟨w.heap.size,3,none⟩ v3).cell? ⟨b,off+1,none⟩=some (C B n0)∧((((u.setCell ⟨w.heap.size,0,none⟩ v0).setCell ⟨w.heap.size,1,none⟩ v1).setCell ⟨w.heap.size,2,none⟩ v2).setCell ⟨w.heap.size,3,none⟩ v3).cell? ⟨b,off+2,none⟩=some (D s0)∧((((u.setCell ⟨w.heap.size,0,none⟩ v0).setCell ⟨w.heap.size,1,none⟩ v1).setCell ⟨w.heap.size,2,none⟩ v2).setCell ⟨w.heap.size,3,none⟩ v3).cell? ⟨b,off+3,none⟩=some (F a0 l0 c0))∧(((((u.setCell ⟨w.heap.size,0,none⟩ v0).setCell ⟨w.heap.size,1,none⟩ v1).setCell ⟨w.heap.size,2,none⟩ v2).setCell ⟨w.heap.size,3,none⟩ v3).cell? ⟨b,off+4,none⟩=some (C B k1)∧((((u.setCell ⟨w.heap.size,0,none⟩ v0).setCell ⟨w.heap.size,1,none⟩ v1).setCell ⟨w.heap.size,2,none⟩ v2).setCell ⟨w.heap.size,3,none⟩ v3).cell? ⟨b,off+5,none⟩=some (C B n1)∧((((u.setCell ⟨w.heap.size,0,none⟩ v0).setCell ⟨w.heap.size,1,none⟩ v1).setCell ⟨w.heap.size,2,none⟩ v2).setCell ⟨w.heap.size,3,none⟩ v3).cell? ⟨b,off+6,none⟩=some (D s1)∧((((u.setCell ⟨w.heap.size,0,none⟩ v0).setCell ⟨w.heap.size,1,none⟩ v1).setCell ⟨w.heap.size,2,none⟩ v2).setCell ⟨w.heap.size,3,none⟩ v3).cell? ⟨b,off+7,none⟩=some (F a1 l1 c1))):=fun u kk v0 v1 v2 v3=>HS0.out _ ((((((af HB.out kk).setCell (p:=⟨w.heap.size,0,none⟩) (G _) _).setCell (p:=⟨w.heap.size,1,none⟩) (G _) _).setCell (p:=⟨w.heap.size,2,none⟩) (G _) _).setCell (p:=⟨w.heap.size,3,none⟩) (G _) _))
 go_region_held3 (fun W'=>(W'.cell? ⟨b,off,none⟩=some (C B k0)∧W'.cell? ⟨b,off+1,none⟩=some (C B n0)∧W'.cell? ⟨b,off+2,none⟩=some (D s0)∧W'.cell? ⟨b,off+3,none⟩=some (F a0 l0 c0))∧(W'.cell? ⟨b,off+4,none⟩=some (C B k1)∧W'.cell? ⟨b,off+5,none⟩=some (C B n1)∧W'.cell? ⟨b,off+6,none⟩=some (D s1)∧W'.cell? ⟨b,off+7,none⟩=some (F a1 l1 c1)))
  (first
    | with_reducible exact HS.out _ k2
    | with_reducible exact HS.out _ k1
    | with_reducible exact HS.out _ D0
    | with_reducible exact HST.out _ k2 _ _ _ _
    | with_reducible exact HST.out _ k1 _ _ _ _
    | exact⟨⟨x0,x1,x2,x3⟩,⟨z0,z1,z2,z3⟩⟩
    | go_keep)
  (first
    | (go_at_call 43;go_fit (HC.out W.drew (af HB.out D0));rintro e u1 ⟨rfl,h1⟩;have k1:Below W.heap.size W u1:=D0.trans h1;have hb1:=HRB.out u1 k1;have r0:=ac hb1 0;have r1:=ac hb1 1;have r2:=ac hb1 2;have r3:=ac hb1 3;have f0:=aj hb1 0;have f1:=aj hb1 1;have f2:=aj hb1 2;have f3:=aj hb1 3;simp at r0 r1 r2 r3;have hsz1:w.heap.size<u1.heap.size:=lt_block' hb1))
 all_goals
  go_wp2_with fail
  have eP:∀X:World,(((X.setCell ⟨w.heap.size,0,none⟩ (C B q1)).setCell ⟨w.heap.size,1,none⟩ (C B q2)).setCell ⟨w.heap.size,2,none⟩ (D ⟨#[]⟩)).setCell ⟨w.heap.size,3,none⟩ (F none 0 0)=au X (w.heap.size) 0 [C B q1,C B q2,D ⟨#[]⟩,F none 0 0]:=fun _=>rfl
  rw[eP]
  have E:=dh (HRB.out u1 k1) rfl (C B q1) (C B q2) (D ⟨#[]⟩) (F none 0 0)
  have hbb:Below w.heap.size w (au u1 (w.heap.size) 0 [C B q1,C B q2,D ⟨#[]⟩,F none 0 0]):=(af HB.out k1).trans ((aE (w.heap.size) _ _ u1).mono (G _))
  have hoth:∀j,j≠w.heap.size→(au u1 (w.heap.size) 0 [C B q1,C B q2,D ⟨#[]⟩,F none 0 0]).heap[j]? = u1.heap[j]?:=fun j hj=>aB _ _ _ _ j hj
  have hsz:(au u1 (w.heap.size) 0 [C B q1,C B q2,D ⟨#[]⟩,F none 0 0]).heap.size=u1.heap.size:=aD _ _ _ _
  generalize au u1 (w.heap.size) 0 [C B q1,C B q2,D ⟨#[]⟩,F none 0 0]=Y at E hbb hoth hsz ⊢
  obtain⟨t0,t1,t2,t3⟩:=ai E
  simp at t0 t1 t2 t3
  exact bodyPost_ret (v:=K #[C B q1,C B q2,D ⟨#[]⟩,F none 0 0]) (by simp[results,Tryz.results42,go_sem,t0,t1,t2,t3]) rfl ⟨aL.flat _ _ _ (by decide),hbb⟩
theorem pm (A:Nat→Prop) (L:List T) (a:Option Addr) (l c:Nat) (w:World) (hL:ap A w L a l) (hl:l=2) (hwt:∀t ∈ L,wtT t≤1099511627000):Calls Tryz.prog 44 #[F a l c] w fun e w'=>aL A w w' (on2 (fun x y=>cG (cy y x)) L) e∧Below w.heap.size w w':=by
 have hlen:=hL.len.1
 obtain⟨b,off,k0,n0,s0,L0,a0,l0,c0,ha,hAb,hbl,hd0,x0,x1,x2,x3,hlc0,hs0,hL0⟩:=hL.at (i:=0) (by omega)
 obtain⟨b',off',k1,n1,s1,L1,a1,l1,c1,ha',-,-,hd1,z0,z1,z2,z3,hlc1,hs1,hL1⟩:=hL.at (i:=1) (by omega)
 subst ha
 injection ha' with ha'
 injection ha' with e1 e2
 subst e1 e2
 rw[Nat.zero_mul,Nat.add_zero] at x0 x1 x2 x3
 rw[Nat.one_mul] at z0 z1 z2 z3
 have hLL:L = .node k0 n0 s0 L0 :: .node k1 n1 s1 L1::L.drop 2:=by
  have e0:L = .node k0 n0 s0 L0::L.drop 1:=by simpa using hd0
  rw[hd1] at e0
  exact e0
 have hw0:=hwt (.node k1 n1 s1 L1) (by rw[hLL];simp)
 obtain⟨q1,hq1⟩:∃z,z=(bz (.node k1 n1 s1 L1) (.node k0 n0 s0 L0)).1:=⟨_,rfl⟩
 obtain⟨q2,hq2⟩:∃z,z=(bz (.node k1 n1 s1 L1) (.node k0 n0 s0 L0)).2:=⟨_,rfl⟩
 have HC:Hid (∀W,Below w.heap.size w W→Calls Tryz.prog 43 #[vC k1 n1 s1 a1 l1 c1,vC k0 n0 s0 a0 l0 c0] W fun e w'=>e=J (vC q1 q2 ⟨#[]⟩ none 0 0)∧Below W.heap.size W w'):=fun W kk=>by
  have:=nV k1 n1 s1 a1 l1 c1 k0 n0 s0 a0 l0 c0 L1 L0 W (ap.lies _ _ _ (hL1.below kk)) (ap.lies _ _ _ (hL0.below kk)) hlc1 hlc0 (by unfold wtT at hw0;omega)
  rw[←hq1,←hq2] at this
  exact this
 have e1:on2 (fun x y=>cG (cy y x)) L = .node (dn q1 q2).1 (dn q1 q2).2 ⟨#[]⟩ []:=by
  rw[hq1,hq2,hLL]
  exact fU _ _ ⟨#[]⟩ []
 obtain⟨q3,hq3⟩:∃z,z=(dn q1 q2).1:=⟨_,rfl⟩
 obtain⟨q4,hq4⟩:∃z,z=(dn q1 q2).2:=⟨_,rfl⟩
 rw[e1,←hq3,←hq4]
 have HT:Hid (∀W,Calls Tryz.prog 45 #[vC q1 q2 ⟨#[]⟩ none 0 0] W fun e w'=>e=J (vC q3 q4 ⟨#[]⟩ none 0 0)∧Below W.heap.size W w'):=fun W=>by rw[hq3,hq4];exact jO q1 q2 _ none 0 0 W
 clear e1 hq1 hq2 hq3 hq4 hw0 hwt
 have hy:=ae w (H #[C B 0,C B 0,D ⟨#[]⟩,F none 0 0] 30)
 have hz:(w.alloc (H #[C B 0,C B 0,D ⟨#[]⟩,F none 0 0] 30)).heap.size=w.heap.size+1:=by simp
 have hb0:Below w.heap.size w (w.alloc (H #[C B 0,C B 0,D ⟨#[]⟩,F none 0 0] 30)):=(I _ _).alloc (G _) _
 have HY:=aa hy
 have HZ:=aa hz
 have HB:=aa hb0
 have HS0:Hid (∀W',Below w.heap.size w W'→(W'.cell? ⟨b,off,none⟩=some (C B k0)∧W'.cell? ⟨b,off+1,none⟩=some (C B n0)∧W'.cell? ⟨b,off+2,none⟩=some (D s0)∧W'.cell? ⟨b,off+3,none⟩=some (F a0 l0 c0))∧(W'.cell? ⟨b,off+4,none⟩=some (C B k1)∧W'.cell? ⟨b,off+5,none⟩=some (C B n1)∧W'.cell? ⟨b,off+6,none⟩=some (D s1)∧W'.cell? ⟨b,off+7,none⟩=some (F a1 l1 c1))):=fun W' kk=>by
  have q:∀o,W'.cell? ⟨b,o,none⟩=w.cell? ⟨b,o,none⟩:=fun o=>kk.cell (p:=⟨b,o,none⟩) hbl
  exact⟨⟨(q _).trans x0,(q _).trans x1,(q _).trans x2,(q _).trans x3⟩,⟨(q _).trans z0,(q _).trans z1,(q _).trans z2,(q _).trans z3⟩⟩
 clear x0 x1 x2 x3 z0 z1 z2 z3 hd0 hd1 hL0 hL1 hL hLL hlen hy hz hb0 hlc0 hlc1
 subst hl
 go_enter Tryz.func44,Tryz.ntmps44
 go_upto_region 1 with fail
 generalize w.alloc (H #[C B 0,C B 0,D ⟨#[]⟩,F none 0 0] 30)=W at HB HY HZ ⊢
 have HS:Hid (∀W',Below W.heap.size W W'→(W'.cell? ⟨b,off,none⟩=some (C B k0)∧W'.cell? ⟨b,off+1,none⟩=some (C B n0)∧W'.cell? ⟨b,off+2,none⟩=some (D s0)∧W'.cell? ⟨b,off+3,none⟩=some (F a0 l0 c0))∧(W'.cell? ⟨b,off+4,none⟩=some (C B k1)∧W'.cell? ⟨b,off+5,none⟩=some (C B n1)∧W'.cell? ⟨b,off+6,none⟩=some (D s1)∧W'.cell? ⟨b,off+7,none⟩=some (F a1 l1 c1))):=fun W' kk=>HS0.out W' (af HB.out kk)
 have D0:Below W.heap.size W W.drew:=(I _ _).drew
 obtain⟨⟨x0,x1,x2,x3⟩,⟨z0,z1,z2,z3⟩⟩:=HS.out W (I _ _)
 have hbW:b<W.heap.size:=by rw[HZ.out];omega
 have HRB:Hid (∀u,Below W.heap.size W u→u.heap[w.heap.size]? = some (H #[C B 0,C B 0,D ⟨#[]⟩,F none 0 0] 30 (0,0))):=fun u k=>(k.block w.heap.size (by rw[HZ.out];omega)).trans HY.out
 have HST:Hid (∀u,Below W.heap.size W u→∀v0 v1 v2 v3:Value,(((((u.setCell ⟨w.heap.size,0,none⟩ v0).setCell ⟨w.heap.size,1,none⟩ v1).setCell ⟨w.heap.size,2,none⟩ v2).setCell ⟨w.heap.size,3,none⟩ v3).cell? ⟨b,off,none⟩=some (C B k0)∧((((u.setCell ⟨w.heap.size,0,none⟩ v0).setCell ⟨w.heap.size,1,none⟩ v1).setCell ⟨w.heap.size,2,none⟩ v2).setCell ⟨w.heap.size,3,none⟩ v3).cell? ⟨b,off+1,none⟩=some (C B n0)∧((((u.setCell ⟨w.heap.size,0,none⟩ v0).setCell ⟨w.heap.size,1,none⟩ v1).setCell ⟨w.heap.size,2,none⟩ v2).setCell ⟨w.heap.size,3,none⟩ v3).cell? ⟨b,off+2,none⟩=some (D s0)∧((((u.setCell ⟨w.heap.size,0,none⟩ v0).setCell ⟨w.heap.size,1,none⟩ v1).setCell ⟨w.heap.size,2,none⟩ v2).setCell ⟨w.heap.size,3,none⟩ v3).cell? ⟨b,off+3,none⟩=some (F a0 l0 c0))∧(((((u.setCell ⟨w.heap.size,0,none⟩ v0).setCell ⟨w.heap.size,1,none⟩ v1).setCell ⟨w.heap.size,2,none⟩ v2).setCell ⟨w.heap.size,3,none⟩ v3).cell? ⟨b,off+4,none⟩=some (C B k1)∧((((u.setCell ⟨w.heap.size,0,none⟩ v0).setCell ⟨w.heap.size,1,none⟩ v1).setCell ⟨w.heap.size,2,none⟩ v2).setCell ⟨w.heap.size,3,none⟩ v3).cell? ⟨b,off+5,none⟩=some (C B n1)∧((((u.setCell ⟨w.heap.size,0,none⟩ v0).setCell ⟨w.heap.size,1,none⟩ v1).setCell ⟨w.heap.size,2,none⟩ v2).setCell ⟨w.heap.size,3,none⟩ v3).cell? ⟨b,off+6,none⟩=some (D s1)∧((((u.setCell ⟨w.heap.size,0,none⟩ v0).setCell ⟨w.heap.size,1,none⟩ v1).setCell ⟨w.heap.size,2,none⟩ v2).setCell ⟨w.heap.size,3,none⟩ v3).cell? ⟨b,off+7,none⟩=some (F a1 l1 c1))):=fun u kk v0 v1 v2 v3=>HS0.out _ ((((((af HB.out kk).setCell (p:=⟨w.heap.size,0,none⟩) (G _) _).setCell (p:=⟨w.heap.size,1,none⟩) (G _) _).setCell (p:=⟨w.heap.size,2,none⟩) (G _) _).setCell (p:=⟨w.heap.size,3,none⟩) (G _) _))
 go_region_held3 (fun W'=>(W'.cell? ⟨b,off,none⟩=some (C B k0)∧W'.cell? ⟨b,off+1,none⟩=some (C B n0)∧W'.cell? ⟨b,off+2,none⟩=some (D s0)∧W'.cell? ⟨b,off+3,none⟩=some (F a0 l0 c0))∧(W'.cell? ⟨b,off+4,none⟩=some (C B k1)∧W'.cell? ⟨b,off+5,none⟩=some (C B n1)∧W'.cell? ⟨b,off+6,none⟩=some (D s1)∧W'.cell? ⟨b,off+7,none⟩=some (F a1 l1 c1)))
  (first
    | with_reducible exact HS.out _ k2
    | with_reducible exact HS.out _ k1
    | with_reducible exact HS.out _ D0
    | with_reducible exact HST.out _ k2 _ _ _ _
    | with_reducible exact HST.out _ k1 _ _ _ _
    | exact⟨⟨x0,x1,x2,x3⟩,⟨z0,z1,z2,z3⟩⟩
    | go_keep)
  (first
    | (go_at_call 45;go_fit (HT.out u1);rintro e u2 ⟨rfl,h2⟩;have k2:Below W.heap.size W u2:=k1.trans (h2.mono k1.size);have hb1:=HRB.out u2 k2;have r0:=ac hb1 0;have r1:=ac hb1 1;have r2:=ac hb1 2;have r3:=ac hb1 3;have f0:=aj hb1 0;have f1:=aj hb1 1;have f2:=aj hb1 2;have f3:=aj hb1 3;simp at r0 r1 r2 r3;have hsz1:w.heap.size<u2.heap.size:=lt_block' hb1)
    | (go_at_call 43;go_fit (HC.out W.drew (af HB.out D0));rintro e u1 ⟨rfl,h1⟩;have k1:Below W.heap.size W u1:=D0.trans h1))
 all_goals
  go_wp2_with fail
  have eP:∀X:World,(((X.setCell ⟨w.heap.size,0,none⟩ (C B q3)).setCell ⟨w.heap.size,1,none⟩ (C B q4)).setCell ⟨w.heap.size,2,none⟩ (D ⟨#[]⟩)).setCell ⟨w.heap.size,3,none⟩ (F none 0 0)=au X (w.heap.size) 0 [C B q3,C B q4,D ⟨#[]⟩,F none 0 0]:=fun _=>rfl
  rw[eP]
  have E:=dh (HRB.out u2 k2) rfl (C B q3) (C B q4) (D ⟨#[]⟩) (F none 0 0)
  have hbb:Below w.heap.size w (au u2 (w.heap.size) 0 [C B q3,C B q4,D ⟨#[]⟩,F none 0 0]):=(af HB.out k2).trans ((aE (w.heap.size) _ _ u2).mono (G _))
  have hoth:∀j,j≠w.heap.size→(au u2 (w.heap.size) 0 [C B q3,C B q4,D ⟨#[]⟩,F none 0 0]).heap[j]? = u2.heap[j]?:=fun j hj=>aB _ _ _ _ j hj
  have hsz:(au u2 (w.heap.size) 0 [C B q3,C B q4,D ⟨#[]⟩,F none 0 0]).heap.size=u2.heap.size:=aD _ _ _ _
  generalize au u2 (w.heap.size) 0 [C B q3,C B q4,D ⟨#[]⟩,F none 0 0]=Y at E hbb hoth hsz ⊢
  obtain⟨t0,t1,t2,t3⟩:=ai E
  simp at t0 t1 t2 t3
  exact bodyPost_ret (v:=K #[C B q3,C B q4,D ⟨#[]⟩,F none 0 0]) (by simp[results,Tryz.results44,go_sem,t0,t1,t2,t3]) rfl ⟨aL.flat _ _ _ (by decide),hbb⟩
def bA (m:Int) (all:Nat):List T→Nat→T
 | [],o=>if o<all then aw else .node 1 (1-m) ⟨#[]⟩ []
 | .node k n s Lt::r,o=>if k=1 then (if n=m then .node k n s Lt else bA m all r (o+1)) else bA m all r o
def bG (m:Int) (L:List T):T:=bA m L.length L 0
theorem kj (A:Nat→Prop) (L:List T) (a:Option Addr) (l c:Nat) (w:World) (hL:ap A w L a l) (m:Int) (nb:Nat) (hnb:nb<w.heap.size) (hm:w.cell? ⟨nb,0,none⟩=some (C B m)) (h0:0≤m∧m≤1) (hl:l≤1000):Calls Tryz.prog 81 #[F a l c,M (some ⟨nb,0,none⟩)] w fun e w'=>aL A w w' (bG m L) e∧Below w.heap.size w w':=by
 obtain⟨R,hR⟩:∃R,R=bG m L:=⟨_,rfl⟩
 rw[←hR]
 have hR0:R=bA m l (L.drop 0) 0:=by rw[hR,hL.len.1];rfl
 have H0:=aa hR0
 have HM:=aa hm
 clear hR hR0 hm
 have hb0:Below w.heap.size w (w.alloc (H #[C B 0,C B 0,D ⟨#[]⟩,F none 0 0] 30)):=(I _ _).alloc (G _) _
 have hz:(w.alloc (H #[C B 0,C B 0,D ⟨#[]⟩,F none 0 0] 30)).heap.size=w.heap.size+1:=by simp
 have hy:=ae w (H #[C B 0,C B 0,D ⟨#[]⟩,F none 0 0] 30)
 have B0:=aa hb0
 have Z0:=aa hz
 have HL:=aa hL
 have HLL:=aa hL.len.1
 have HRB:Hid (∀W',Below (w.heap.size+1) (w.alloc (H #[C B 0,C B 0,D ⟨#[]⟩,F none 0 0] 30)) W'→W'.heap[w.heap.size]? = some (H #[C B 0,C B 0,D ⟨#[]⟩,F none 0 0] 30 (0,0))):=fun W' k=>(k.block w.heap.size (by omega)).trans hy
 clear hb0 hz hy hL
 go_enter Tryz.func81,Tryz.ntmps81
 go_wp2_with fail
 generalize w.alloc (H #[C B 0,C B 0,D ⟨#[]⟩,F none 0 0] 30)=W0 at B0 Z0 HRB ⊢
 go_loopg [4,9] l (fun q s4 s9 wr=>∃(i o:Nat),i≤l∧l-i≤q∧s9=C B i∧s4=C B o∧o≤i∧Below (w.heap.size+1) W0 wr∧R=bA m l (L.drop i) o)
 case atStart=>exact⟨0,0,Nat.zero_le _,by omega,rfl,rfl,G _,I _ _,H0.out⟩
 case round=>
  clear H0
  obtain⟨i,o,hi,hg,rfl,rfl,hoi,hbw,hfe⟩:=hrel
  have HFE:=aa hfe
  clear hfe
  by_cases hlt:i<l
  ·skip
   obtain⟨b,off,k,n,s,Lt,a1,l1,c1,ha,hAb,hbl,hd,x0,x1,x2,x3,hlc,hss,hLt⟩:=HL.out.at (i:=i) hlt
   subst ha
   have hw0:Below w.heap.size w wr:=B0.out.trans (hbw.mono (by omega))
   have hq:∀o,wr.cell? ⟨b,o,none⟩=w.cell? ⟨b,o,none⟩:=fun o=>hw0.cell (p:=⟨b,o,none⟩) hbl
   have y0:=(hq _).trans x0
   have y1:=(hq _).trans x1
   have y2:=(hq _).trans x2
   have y3:=(hq _).trans x3
   have hil:(i:Int)<l:=by omega
   have hzw:w.heap.size+1≤wr.heap.size:=by have:=hbw.size;rw[Z0.out] at this;exact this
   have HLT:=aa hLt
   have HSS:=aa hss
   have HLC:=aa hlc
   have HD:=aa hd
   have hr:=HFE.out
   rw[HD.out] at hr
   unfold bA at hr
   have hxb:=ae wr (H #[C B k,C B n,D s,F a1 l1 c1] 30)
   have hkx:Below wr.heap.size wr (wr.alloc (H #[C B k,C B n,D s,F a1 l1 c1] 30)):=(I _ _).alloc (G _) _
   have hnm:=(hkx.cell (p:=⟨nb,0,none⟩) (by show nb<wr.heap.size;omega)).trans ((hw0.cell (p:=⟨nb,0,none⟩) hnb).trans HM.out)
   have hnl:nb<(wr.alloc (H #[C B k,C B n,D s,F a1 l1 c1] 30)).heap.size:=by simp;omega
   clear x0 x1 x2 x3 hq hd hLt hss hlc HD HFE hxb
   by_cases hk:k=1
   ·have hk':(k==1)=true:=by simp[hk]
    rw[if_pos hk] at hr
    by_cases hn:n=m
    ·have hn':(n==m)=true:=by simp[hn]
     rw[if_pos hn] at hr
     have HRT:=aa hr
     clear hr hn hk
     have hb1:=(hkx.block w.heap.size (by omega)).trans (HRB.out wr hbw)
     obtain⟨r0,r1,r2,r3⟩:=ai hb1
     obtain⟨fr0,fr1,fr2,fr3⟩:=aq hb1
     simp at r0 r1 r2 r3
     have HBX:=aa hb1
     have HBW:=aa ((B0.out.trans (hbw.mono (by omega))).trans (hkx.mono (by omega)))
     have HKX:=aa hkx
     have HBW0:=aa hbw
     clear hb1 hkx hbw
     go_wp2_with fail
     generalize hWX:wr.alloc (H #[C B k,C B n,D s,F a1 l1 c1] 30)=WX at HBX HBW HKX r0 r1 r2 r3 fr0 fr1 fr2 fr3 ⊢
     have eP:∀X:World,(((X.setCell ⟨w.heap.size,0,none⟩ (C B k)).setCell ⟨w.heap.size,1,none⟩ (C B n)).setCell ⟨w.heap.size,2,none⟩ (D s)).setCell ⟨w.heap.size,3,none⟩ (F a1 l1 c1)=au X (w.heap.size) 0 [C B k,C B n,D s,F a1 l1 c1]:=fun _=>rfl
     rw[eP]
     have E:=dh HBX.out rfl (C B k) (C B n) (D s) (F a1 l1 c1)
     have hbb:Below w.heap.size w (au WX (w.heap.size) 0 [C B k,C B n,D s,F a1 l1 c1]):=HBW.out.trans ((aE (w.heap.size) _ _ WX).mono (G _))
     have hoth:∀j,j≠w.heap.size→(au WX (w.heap.size) 0 [C B k,C B n,D s,F a1 l1 c1]).heap[j]? = WX.heap[j]?:=fun j hj=>aB _ _ _ _ j hj
     have hsz:(au WX (w.heap.size) 0 [C B k,C B n,D s,F a1 l1 c1]).heap.size=WX.heap.size:=aD _ _ _ _
     generalize au WX (w.heap.size) 0 [C B k,C B n,D s,F a1 l1 c1]=Y at E hbb hoth hsz ⊢
     obtain⟨t0,t1,t2,t3⟩:=ai E
     simp at t0 t1 t2 t3
     exact bodyPost_ret (v:=K #[C B k,C B n,D s,F a1 l1 c1]) (by simp[results,Tryz.results81,go_sem,t0,t1,t2,t3]) rfl ⟨⟨k,n,s,a1,l1,c1,Lt,rfl,HRT.out,HLC.out,HSS.out,ap.kept hbb.size (fun i hi hl=>⟨.inl hi,hbb.block i hl⟩) _ _ _ HLT.out⟩,hbb⟩
    ·have hn':(n==m)=false:=by simp[hn]
     rw[if_neg hn] at hr
     have HRT:=aa hr
     have HKX:=aa (hbw.trans (hkx.mono hzw))
     clear hr hn hk hkx
     go_wp2_with fail
     go_roundg (l-(i+1))
     case measure=>omega
     case rel=>exact⟨i+1,o+1,by omega,by omega,by go_num,by go_num,by omega,HKX.out,HRT.out⟩
   ·have hk':(k==1)=false:=by simp[hk]
    rw[if_neg hk] at hr
    have HRT:=aa hr
    have HKX:=aa (hbw.trans (hkx.mono hzw))
    clear hr hk hkx
    go_wp2_with fail
    go_roundg (l-(i+1))
    case measure=>omega
    case rel=>exact⟨i+1,o,by omega,by omega,by go_num,rfl,by omega,HKX.out,HRT.out⟩
  ·have hil:¬(i:Int)<l:=by omega
   have hr:=HFE.out
   rw[List.drop_eq_nil_of_le (by have:=HLL.out;omega)] at hr
   unfold bA at hr
   have hw0:Below w.heap.size w wr:=B0.out.trans (hbw.mono (by omega))
   have hzw:w.heap.size+1≤wr.heap.size:=by have:=hbw.size;rw[Z0.out] at this;exact this
   have hnm:=(hw0.cell (p:=⟨nb,0,none⟩) hnb).trans HM.out
   have hnl:nb<wr.heap.size:=by omega
   clear HFE
   by_cases ho:o<l
   ·have ho':(o:Int)<l:=by omega
    rw[if_pos ho] at hr
    have HRT:=aa (show R = .node 0 0 ⟨#[]⟩ [] from hr)
    clear hr ho
    have hb1:=HRB.out wr hbw
    obtain⟨r0,r1,r2,r3⟩:=ai hb1
    obtain⟨fr0,fr1,fr2,fr3⟩:=aq hb1
    simp at r0 r1 r2 r3
    have HBX:=aa hb1
    have HBW:=aa (B0.out.trans (hbw.mono (by omega)))
    clear hb1 hbw
    go_wp2_with fail
    have eP:∀X:World,(((X.setCell ⟨w.heap.size,0,none⟩ (C B 0)).setCell ⟨w.heap.size,1,none⟩ (C B 0)).setCell ⟨w.heap.size,2,none⟩ (D ⟨#[]⟩)).setCell ⟨w.heap.size,3,none⟩ (F none 0 0)=au X (w.heap.size) 0 [C B 0,C B 0,D ⟨#[]⟩,F none 0 0]:=fun _=>rfl
    rw[eP]
    have E:=dh HBX.out rfl (C B 0) (C B 0) (D ⟨#[]⟩) (F none 0 0)
    have hbb:Below w.heap.size w (au wr (w.heap.size) 0 [C B 0,C B 0,D ⟨#[]⟩,F none 0 0]):=HBW.out.trans ((aE (w.heap.size) _ _ wr).mono (G _))
    have hoth:∀j,j≠w.heap.size→(au wr (w.heap.size) 0 [C B 0,C B 0,D ⟨#[]⟩,F none 0 0]).heap[j]? = wr.heap[j]?:=fun j hj=>aB _ _ _ _ j hj
    have hsz:(au wr (w.heap.size) 0 [C B 0,C B 0,D ⟨#[]⟩,F none 0 0]).heap.size=wr.heap.size:=aD _ _ _ _
    generalize au wr (w.heap.size) 0 [C B 0,C B 0,D ⟨#[]⟩,F none 0 0]=Y at E hbb hoth hsz ⊢
    obtain⟨t0,t1,t2,t3⟩:=ai E
    simp at t0 t1 t2 t3
    exact bodyPost_ret (v:=K #[C B 0,C B 0,D ⟨#[]⟩,F none 0 0]) (by simp[results,Tryz.results81,go_sem,t0,t1,t2,t3]) rfl ⟨by rw[HRT.out];exact aL.flat _ _ _ (by decide),hbb⟩
   ·have ho':¬(o:Int)<l:=by omega
    rw[if_neg ho] at hr
    have HRT:=aa hr
    clear hr ho
    have hb1:=HRB.out wr hbw
    obtain⟨r0,r1,r2,r3⟩:=ai hb1
    obtain⟨fr0,fr1,fr2,fr3⟩:=aq hb1
    simp at r0 r1 r2 r3
    have HBX:=aa hb1
    have HBW:=aa (B0.out.trans (hbw.mono (by omega)))
    clear hb1 hbw
    go_wp2_with fail
    have eP:∀X:World,(((X.setCell ⟨w.heap.size,0,none⟩ (C B 1)).setCell ⟨w.heap.size,1,none⟩ (C B (1-m))).setCell ⟨w.heap.size,2,none⟩ (D ⟨#[]⟩)).setCell ⟨w.heap.size,3,none⟩ (F none 0 0)=au X (w.heap.size) 0 [C B 1,C B (1-m),D ⟨#[]⟩,F none 0 0]:=fun _=>rfl
    rw[eP]
    have E:=dh HBX.out rfl (C B 1) (C B (1-m)) (D ⟨#[]⟩) (F none 0 0)
    have hbb:Below w.heap.size w (au wr (w.heap.size) 0 [C B 1,C B (1-m),D ⟨#[]⟩,F none 0 0]):=HBW.out.trans ((aE (w.heap.size) _ _ wr).mono (G _))
    have hoth:∀j,j≠w.heap.size→(au wr (w.heap.size) 0 [C B 1,C B (1-m),D ⟨#[]⟩,F none 0 0]).heap[j]? = wr.heap[j]?:=fun j hj=>aB _ _ _ _ j hj
    have hsz:(au wr (w.heap.size) 0 [C B 1,C B (1-m),D ⟨#[]⟩,F none 0 0]).heap.size=wr.heap.size:=aD _ _ _ _
    generalize au wr (w.heap.size) 0 [C B 1,C B (1-m),D ⟨#[]⟩,F none 0 0]=Y at E hbb hoth hsz ⊢
    obtain⟨t0,t1,t2,t3⟩:=ai E
    simp at t0 t1 t2 t3
    exact bodyPost_ret (v:=K #[C B 1,C B (1-m),D ⟨#[]⟩,F none 0 0]) (by simp[results,Tryz.results81,go_sem,t0,t1,t2,t3]) rfl ⟨by rw[HRT.out];exact aL.flat _ _ _ (by decide),hbb⟩
end Go.Proofs.YtijjpoohhgapoaaGreatDoor

import Derived.Test.YtijjpoohhgapoaaGreatDoorVQAG
namespace Go.Proofs.YtijjpoohhgapoaaGreatDoor
open Go.RowKit
set_option linter.unusedVariables false
set_option maxHeartbeats 4000000
set_option maxRecDepth 100000
open IntKind renaming i64 → B
open Value renaming string → C, int → D, slice → F, agg → H
open Obj renaming cells → G
open Ending renaming returned → I
open Nat renaming le_refl → J
open RowKit.Below renaming refl → K
def hdT:List T→T
 | []=>aw
 | t::_=>t
theorem tA (A:Nat→Prop) (L:List T) (a:Option Addr) (l c:Nat) (w:World) (hL:ap A w L a l) (hl:l=1):Calls Tryz.prog 46 #[F a l c] w fun e w'=>aL A w w' (cG (hdT L)) e∧Below w.heap.size w w':=by
 obtain⟨b,off,k,n,s,Lt,a1,l1,c1,rfl,hAb,hbl,hd,x0,x1,x2,x3,hlc,hss,hLt⟩:=hL.at (i:=0) (by omega)
 rw[Nat.zero_mul,Nat.add_zero] at x0 x1 x2 x3
 have hlen:=hL.len.1
 have hL1:L = .node k n s Lt::L.drop 1:=by simpa using hd
 have e1:cG (hdT L) = .node (dn k n).1 (dn k n).2 ⟨#[]⟩ []:=by rw[hL1];exact fU k n s Lt
 obtain⟨z1,hz1⟩:∃z,z=(dn k n).1:=⟨_,rfl⟩
 obtain⟨z2,hz2⟩:∃z,z=(dn k n).2:=⟨_,rfl⟩
 rw[e1,←hz1,←hz2]
 have HC:Hid (∀W,Calls Tryz.prog 45 #[vC k n s a1 l1 c1] W fun e w'=>e=I (vC z1 z2 ⟨#[]⟩ none 0 0)∧Below W.heap.size W w'):=fun W=>by rw[hz1,hz2];exact jO k n s a1 l1 c1 W
 have hy:=ae w (G #[D B 0,D B 0,C ⟨#[]⟩,F none 0 0] 30)
 have hz:(w.alloc (G #[D B 0,D B 0,C ⟨#[]⟩,F none 0 0] 30)).heap.size=w.heap.size+1:=by simp
 have hb0:Below w.heap.size w (w.alloc (G #[D B 0,D B 0,C ⟨#[]⟩,F none 0 0] 30)):=(K _ _).alloc (J _) _
 have hq:∀o,(w.alloc (G #[D B 0,D B 0,C ⟨#[]⟩,F none 0 0] 30)).cell? ⟨b,o,none⟩=w.cell? ⟨b,o,none⟩:=fun o=>hb0.cell (p:=⟨b,o,none⟩) hbl
 have y0:(w.alloc (G #[D B 0,D B 0,C ⟨#[]⟩,F none 0 0] 30)).cell? ⟨b,off,none⟩=_:=(hq _).trans x0
 have y1:(w.alloc (G #[D B 0,D B 0,C ⟨#[]⟩,F none 0 0] 30)).cell? ⟨b,off+1,none⟩=_:=(hq _).trans x1
 have y2:(w.alloc (G #[D B 0,D B 0,C ⟨#[]⟩,F none 0 0] 30)).cell? ⟨b,off+2,none⟩=_:=(hq _).trans x2
 have y3:(w.alloc (G #[D B 0,D B 0,C ⟨#[]⟩,F none 0 0] 30)).cell? ⟨b,off+3,none⟩=_:=(hq _).trans x3
 have hbl2:b<(w.alloc (G #[D B 0,D B 0,C ⟨#[]⟩,F none 0 0] 30)).heap.size:=by rw[hz];omega
 have HY:=aa hy
 have HZ:=aa hz
 have HB:=aa hb0
 clear x0 x1 x2 x3 hq hL1 hd hLt hL e1 hz1 hz2 hlen hy hz hb0
 subst hl
 go_enter Tryz.func46,Tryz.ntmps46
 go_wp2_with fail
 refine(HC.out _).mono ?_
 generalize w.alloc (G #[D B 0,D B 0,C ⟨#[]⟩,F none 0 0] 30)=W at HB HY HZ y0 y1 y2 y3 hbl2 ⊢
 rintro e w1 ⟨rfl,k1⟩
 have hb1:=(k1.block w.heap.size (by rw[HZ.out];omega)).trans HY.out
 obtain⟨h0,h1,h2,h3⟩:=ai hb1
 obtain⟨fh0,fh1,fh2,fh3⟩:=aq hb1
 simp at h0 h1 h2 h3
 have hs1:w.heap.size<w1.heap.size:=by have:=k1.size;rw[HZ.out] at this;omega
 have HW1:=aa (af HB.out k1)
 have HB1:=aa hb1
 clear k1 hb1 y0 y1 y2 y3
 go_wp2_with fail
 have eP:∀X:World,(((X.setCell ⟨w.heap.size,0,none⟩ (D B z1)).setCell ⟨w.heap.size,1,none⟩ (D B z2)).setCell ⟨w.heap.size,2,none⟩ (C ⟨#[]⟩)).setCell ⟨w.heap.size,3,none⟩ (F none 0 0)=au X (w.heap.size) 0 [D B z1,D B z2,C ⟨#[]⟩,F none 0 0]:=fun _=>rfl
 rw[eP]
 have E:=dh HB1.out rfl (D B z1) (D B z2) (C ⟨#[]⟩) (F none 0 0)
 have hbb:Below w.heap.size w (au w1 (w.heap.size) 0 [D B z1,D B z2,C ⟨#[]⟩,F none 0 0]):=HW1.out.trans ((aE (w.heap.size) _ _ w1).mono (by omega))
 have hoth:∀j,j≠w.heap.size→(au w1 (w.heap.size) 0 [D B z1,D B z2,C ⟨#[]⟩,F none 0 0]).heap[j]? = w1.heap[j]?:=fun j hj=>aB _ _ _ _ j hj
 have hsz:(au w1 (w.heap.size) 0 [D B z1,D B z2,C ⟨#[]⟩,F none 0 0]).heap.size=w1.heap.size:=aD _ _ _ _
 generalize au w1 (w.heap.size) 0 [D B z1,D B z2,C ⟨#[]⟩,F none 0 0]=Y at E hbb hoth hsz ⊢
 obtain⟨t0,t1,t2,t3⟩:=ai E
 simp at t0 t1 t2 t3
 exact bodyPost_ret (v:=H #[D B z1,D B z2,C ⟨#[]⟩,F none 0 0]) (by simp[results,Tryz.results46,go_sem,t0,t1,t2,t3]) rfl ⟨aL.flat _ _ _ (by decide),hbb⟩
def fJ:T→T
 | .node k _ _ _=>ei (k==0)
theorem sd (A:Nat→Prop) (L:List T) (a:Option Addr) (l c:Nat) (w:World) (hL:ap A w L a l) (hl:l=1):Calls Tryz.prog 49 #[F a l c] w fun e w'=>aL A w w' (fJ (hdT L)) e∧Below w.heap.size w w':=by
 obtain⟨b,off,k,n,s,Lt,a1,l1,c1,rfl,hAb,hbl,hd,x0,x1,x2,x3,hlc,hss,hLt⟩:=hL.at (i:=0) (by omega)
 rw[Nat.zero_mul,Nat.add_zero] at x0 x1 x2 x3
 have hlen:=hL.len.1
 have hL1:L = .node k n s Lt::L.drop 1:=by simpa using hd
 have e1:fJ (hdT L)=ei (k==0):=by rw[hL1];rfl
 rw[e1]
 have hy:=ae w (G #[D B 0,D B 0,C ⟨#[]⟩,F none 0 0] 30)
 have hz:(w.alloc (G #[D B 0,D B 0,C ⟨#[]⟩,F none 0 0] 30)).heap.size=w.heap.size+1:=by simp
 have hb0:Below w.heap.size w (w.alloc (G #[D B 0,D B 0,C ⟨#[]⟩,F none 0 0] 30)):=(K _ _).alloc (J _) _
 have hq:∀o,(w.alloc (G #[D B 0,D B 0,C ⟨#[]⟩,F none 0 0] 30)).cell? ⟨b,o,none⟩=w.cell? ⟨b,o,none⟩:=fun o=>hb0.cell (p:=⟨b,o,none⟩) hbl
 have y0:(w.alloc (G #[D B 0,D B 0,C ⟨#[]⟩,F none 0 0] 30)).cell? ⟨b,off,none⟩=_:=(hq _).trans x0
 have y1:(w.alloc (G #[D B 0,D B 0,C ⟨#[]⟩,F none 0 0] 30)).cell? ⟨b,off+1,none⟩=_:=(hq _).trans x1
 have y2:(w.alloc (G #[D B 0,D B 0,C ⟨#[]⟩,F none 0 0] 30)).cell? ⟨b,off+2,none⟩=_:=(hq _).trans x2
 have y3:(w.alloc (G #[D B 0,D B 0,C ⟨#[]⟩,F none 0 0] 30)).cell? ⟨b,off+3,none⟩=_:=(hq _).trans x3
 have hbl2:b<(w.alloc (G #[D B 0,D B 0,C ⟨#[]⟩,F none 0 0] 30)).heap.size:=by rw[hz];omega
 have HY:=aa hy
 have HZ:=aa hz
 have HB:=aa hb0
 clear x0 x1 x2 x3 hq hL1 hd hLt hL e1 hlen hy hz hb0
 subst hl
 by_cases hk:k=0
 ·have hk':(k==0)=true:=by simp[hk]
  rw[hk']
  show Calls _ _ _ _ fun e w_=>aL A w w_ (.node 1 1 ⟨#[]⟩ []) e∧Below w.heap.size w w_
  go_enter Tryz.func49,Tryz.ntmps49
  go_wp2_with fail
  refine(pT _).mono ?_
  generalize w.alloc (G #[D B 0,D B 0,C ⟨#[]⟩,F none 0 0] 30)=W at HB HY HZ y0 y1 y2 y3 hbl2 ⊢
  rintro e w1 ⟨rfl,k1⟩
  have hb1:=(k1.block w.heap.size (by rw[HZ.out];omega)).trans HY.out
  obtain⟨h0,h1,h2,h3⟩:=ai hb1
  obtain⟨fh0,fh1,fh2,fh3⟩:=aq hb1
  simp at h0 h1 h2 h3
  have hs1:w.heap.size<w1.heap.size:=by have:=k1.size;rw[HZ.out] at this;omega
  have HW1:=aa (af HB.out k1)
  have HB1:=aa hb1
  clear k1 hb1 y0 y1 y2 y3
  go_wp2_with fail
  have eP:∀X:World,(((X.setCell ⟨w.heap.size,0,none⟩ (D B 1)).setCell ⟨w.heap.size,1,none⟩ (D B 1)).setCell ⟨w.heap.size,2,none⟩ (C ⟨#[]⟩)).setCell ⟨w.heap.size,3,none⟩ (F none 0 0)=au X (w.heap.size) 0 [D B 1,D B 1,C ⟨#[]⟩,F none 0 0]:=fun _=>rfl
  rw[eP]
  have E:=dh HB1.out rfl (D B 1) (D B 1) (C ⟨#[]⟩) (F none 0 0)
  have hbb:Below w.heap.size w (au w1 (w.heap.size) 0 [D B 1,D B 1,C ⟨#[]⟩,F none 0 0]):=HW1.out.trans ((aE (w.heap.size) _ _ w1).mono (by omega))
  have hoth:∀j,j≠w.heap.size→(au w1 (w.heap.size) 0 [D B 1,D B 1,C ⟨#[]⟩,F none 0 0]).heap[j]? = w1.heap[j]?:=fun j hj=>aB _ _ _ _ j hj
  have hsz:(au w1 (w.heap.size) 0 [D B 1,D B 1,C ⟨#[]⟩,F none 0 0]).heap.size=w1.heap.size:=aD _ _ _ _
  generalize au w1 (w.heap.size) 0 [D B 1,D B 1,C ⟨#[]⟩,F none 0 0]=Y at E hbb hoth hsz ⊢
  obtain⟨t0,t1,t2,t3⟩:=ai E
  simp at t0 t1 t2 t3
  exact bodyPost_ret (v:=H #[D B 1,D B 1,C ⟨#[]⟩,F none 0 0]) (by simp[results,Tryz.results49,go_sem,t0,t1,t2,t3]) rfl ⟨aL.flat _ _ _ (by decide),hbb⟩
 ·have hk':(k==0)=false:=by simp[hk]
  rw[hk']
  show Calls _ _ _ _ fun e w_=>aL A w w_ (.node 1 0 ⟨#[]⟩ []) e∧Below w.heap.size w w_
  go_enter Tryz.func49,Tryz.ntmps49
  go_wp2_with fail
  refine(pU _).mono ?_
  generalize w.alloc (G #[D B 0,D B 0,C ⟨#[]⟩,F none 0 0] 30)=W at HB HY HZ y0 y1 y2 y3 hbl2 ⊢
  rintro e w1 ⟨rfl,k1⟩
  have hb1:=(k1.block w.heap.size (by rw[HZ.out];omega)).trans HY.out
  obtain⟨h0,h1,h2,h3⟩:=ai hb1
  obtain⟨fh0,fh1,fh2,fh3⟩:=aq hb1
  simp at h0 h1 h2 h3
  have hs1:w.heap.size<w1.heap.size:=by have:=k1.size;rw[HZ.out] at this;omega
  have HW1:=aa (af HB.out k1)
  have HB1:=aa hb1
  clear k1 hb1 y0 y1 y2 y3
  go_wp2_with fail
  have eP:∀X:World,(((X.setCell ⟨w.heap.size,0,none⟩ (D B 1)).setCell ⟨w.heap.size,1,none⟩ (D B 0)).setCell ⟨w.heap.size,2,none⟩ (C ⟨#[]⟩)).setCell ⟨w.heap.size,3,none⟩ (F none 0 0)=au X (w.heap.size) 0 [D B 1,D B 0,C ⟨#[]⟩,F none 0 0]:=fun _=>rfl
  rw[eP]
  have E:=dh HB1.out rfl (D B 1) (D B 0) (C ⟨#[]⟩) (F none 0 0)
  have hbb:Below w.heap.size w (au w1 (w.heap.size) 0 [D B 1,D B 0,C ⟨#[]⟩,F none 0 0]):=HW1.out.trans ((aE (w.heap.size) _ _ w1).mono (by omega))
  have hoth:∀j,j≠w.heap.size→(au w1 (w.heap.size) 0 [D B 1,D B 0,C ⟨#[]⟩,F none 0 0]).heap[j]? = w1.heap[j]?:=fun j hj=>aB _ _ _ _ j hj
  have hsz:(au w1 (w.heap.size) 0 [D B 1,D B 0,C ⟨#[]⟩,F none 0 0]).heap.size=w1.heap.size:=aD _ _ _ _
  generalize au w1 (w.heap.size) 0 [D B 1,D B 0,C ⟨#[]⟩,F none 0 0]=Y at E hbb hoth hsz ⊢
  obtain⟨t0,t1,t2,t3⟩:=ai E
  simp at t0 t1 t2 t3
  exact bodyPost_ret (v:=H #[D B 1,D B 0,C ⟨#[]⟩,F none 0 0]) (by simp[results,Tryz.results49,go_sem,t0,t1,t2,t3]) rfl ⟨aL.flat _ _ _ (by decide),hbb⟩
theorem uW (A:Nat→Prop) (L:List T) (a:Option Addr) (l c:Nat) (w:World) (hL:ap A w L a l) (hl:l=1):Calls Tryz.prog 55 #[F a l c] w fun e w'=>aL A w w' (hdT L) e∧Below w.heap.size w w':=by
 obtain⟨b,off,k,n,s,Lt,a1,l1,c1,rfl,hAb,hbl,hd,x0,x1,x2,x3,hlc,hss,hLt⟩:=hL.at (i:=0) (by omega)
 rw[Nat.zero_mul,Nat.add_zero] at x0 x1 x2 x3
 have hlen:=hL.len.1
 have hL1:L = .node k n s Lt::L.drop 1:=by simpa using hd
 have e1:hdT L = .node k n s Lt:=by rw[hL1];rfl
 rw[e1]
 have hy:=ae w (G #[D B 0,D B 0,C ⟨#[]⟩,F none 0 0] 30)
 have hz:(w.alloc (G #[D B 0,D B 0,C ⟨#[]⟩,F none 0 0] 30)).heap.size=w.heap.size+1:=by simp
 have hb0:Below w.heap.size w (w.alloc (G #[D B 0,D B 0,C ⟨#[]⟩,F none 0 0] 30)):=(K _ _).alloc (J _) _
 have hq:∀o,(w.alloc (G #[D B 0,D B 0,C ⟨#[]⟩,F none 0 0] 30)).cell? ⟨b,o,none⟩=w.cell? ⟨b,o,none⟩:=fun o=>hb0.cell (p:=⟨b,o,none⟩) hbl
 have y0:(w.alloc (G #[D B 0,D B 0,C ⟨#[]⟩,F none 0 0] 30)).cell? ⟨b,off,none⟩=_:=(hq _).trans x0
 have y1:(w.alloc (G #[D B 0,D B 0,C ⟨#[]⟩,F none 0 0] 30)).cell? ⟨b,off+1,none⟩=_:=(hq _).trans x1
 have y2:(w.alloc (G #[D B 0,D B 0,C ⟨#[]⟩,F none 0 0] 30)).cell? ⟨b,off+2,none⟩=_:=(hq _).trans x2
 have y3:(w.alloc (G #[D B 0,D B 0,C ⟨#[]⟩,F none 0 0] 30)).cell? ⟨b,off+3,none⟩=_:=(hq _).trans x3
 have hbl2:b<(w.alloc (G #[D B 0,D B 0,C ⟨#[]⟩,F none 0 0] 30)).heap.size:=by rw[hz];omega
 have HY:=aa hy
 have HZ:=aa hz
 have HB:=aa hb0
 have HLT:=aa hLt
 have HSS:=aa hss
 have HLC:=aa hlc
 have HAB:=aa hAb
 obtain⟨h0,h1,h2,h3⟩:=ai hy
 obtain⟨fh0,fh1,fh2,fh3⟩:=aq hy
 simp at h0 h1 h2 h3
 clear x0 x1 x2 x3 hq hL1 hd hLt hL e1 hlen hy hz hb0 hlc
 subst hl
 go_enter Tryz.func55,Tryz.ntmps55
 go_wp2_with fail
 have hbb:Below w.heap.size w (w.alloc (G #[D B k,D B n,C s,F a1 l1 c1] 30)):=(K _ _).alloc (J _) _
 exact bodyPost_ret (v:=vC k n s a1 l1 c1) (by simp[results,Tryz.results55,go_sem]) rfl ⟨⟨k,n,s,a1,l1,c1,Lt,rfl,rfl,HLC.out,HSS.out,ap.kept hbb.size (fun i hi hl=>⟨.inl hi,hbb.block i hl⟩) _ _ _ HLT.out⟩,hbb⟩
end Go.Proofs.YtijjpoohhgapoaaGreatDoor

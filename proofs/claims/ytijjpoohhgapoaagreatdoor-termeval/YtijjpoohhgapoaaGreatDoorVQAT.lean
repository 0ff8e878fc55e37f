import Derived.Test.YtijjpoohhgapoaaGreatDoorVQAS
namespace Go.Proofs.YtijjpoohhgapoaaGreatDoor
open Go.RowKit
set_option linter.unusedVariables false
set_option maxHeartbeats 4000000
set_option maxRecDepth 100000
open Value renaming string → C, int → F, slice → G, agg → K, tuple → O, pointer → Q
open IntKind renaming i64 → D
open Obj renaming cells → H
open Nat renaming le_refl → I
open RowKit.Below renaming refl → J, heap_setCell → M
open Ending renaming returned → N
theorem lg (n1 n2:Int) (s1 s2:ByteArray) (a1 a2:Option Addr) (l1 c1 l2 c2:Nat) (L1 L2:List T) (w:World) (hL1:am w L1 a1 l1) (hL2:am w L2 a2 l2) (hs:l1+l2≤30) (hw:wtL L1+wtL L2≤1099511627776) :
 Calls Tryz.prog 79 #[C ⟨#[43]⟩,K #[F D 4,F D n1,C s1,G a1 l1 c1],K #[F D 4,F D n2,C s2,G a2 l2 c2]] w fun e w'=>uf (fun i=>w.heap.size≤i) w' 4 0 ⟨#[]⟩ (L1++L2) 0 e∧Below w.heap.size w w':=by
 have HJ:Hid (∀U,Below w.heap.size w U→Calls Tryz.prog 114 #[G a1 l1 c1,G a2 l2 c2] U fun e w'=>uf (fun i=>U.heap.size≤i) w' 4 0 ⟨#[]⟩ (L1++L2) 0 e∧Below U.heap.size U w'):=fun U kU=>fL a1 a2 l1 c1 l2 c2 L1 L2 U (hL1.below kU) (hL2.below kU) hs hw
 have b0:Below w.heap.size w (((w.alloc (H #[F D 4,F D n1,C s1,G a1 l1 c1] 30)).alloc (H #[F D 4,F D n2,C s2,G a2 l2 c2] 30)).alloc (H #[F D 0,F D 0,C ⟨#[]⟩,G none 0 0] 30)):=(((J _ _).alloc (I _) _).alloc (by simp) _).alloc (by simp;omega) _
 have q3:=(three_alloc w (H #[F D 4,F D n1,C s1,G a1 l1 c1] 30) (H #[F D 4,F D n2,C s2,G a2 l2 c2] 30) (H #[F D 0,F D 0,C ⟨#[]⟩,G none 0 0] 30)).2.2
 have z0:(((w.alloc (H #[F D 4,F D n1,C s1,G a1 l1 c1] 30)).alloc (H #[F D 4,F D n2,C s2,G a2 l2 c2] 30)).alloc (H #[F D 0,F D 0,C ⟨#[]⟩,G none 0 0] 30)).heap.size=w.heap.size+3:=by simp
 have HB0:=aa b0
 have HQ3:=aa q3
 have HZ0:=aa z0
 clear b0 q3 z0
 go_enter Tryz.func79,Tryz.ntmps79
 go_wp2_with fail
 refine(HJ.out _ HB0.out).mono ?_
 generalize (((w.alloc (H #[F D 4,F D n1,C s1,G a1 l1 c1] 30)).alloc (H #[F D 4,F D n2,C s2,G a2 l2 c2] 30)).alloc (H #[F D 0,F D 0,C ⟨#[]⟩,G none 0 0] 30))=W at HB0 HQ3 HZ0 ⊢
 rintro e w1 ⟨⟨a',l',c',rfl,hlc,hL'⟩,k1⟩
 have HL':=aa hL'
 clear hL'
 have hr:=(k1.block (w.heap.size+2) (by rw[HZ0.out];omega)).trans HQ3.out
 have HK:=aa (HB0.out.trans (k1.mono HB0.out.size))
 have HR:=aa hr
 obtain⟨r0,r1,r2,r3⟩:=ai hr
 obtain⟨f0,f1,f2,f3⟩:=aq hr
 simp at r0 r1 r2 r3
 have sz2:w.heap.size+2<w1.heap.size:=(Array.getElem?_eq_some_iff.1 hr).1
 clear hr k1
 go_wp2_with fail
 have E:=set4_here (b:=w.heap.size+1+1) HR.out (F D 4) (F D 0) (C ⟨#[]⟩) (G a' l' c')
 have hbb:Below w.heap.size w ((((w1.setCell ⟨w.heap.size+1+1,0,none⟩ (F D 4)).setCell ⟨w.heap.size+1+1,1,none⟩ (F D 0)).setCell ⟨w.heap.size+1+1,2,none⟩ (C ⟨#[]⟩)).setCell ⟨w.heap.size+1+1,3,none⟩ (G a' l' c')):=(((HK.out.setCell (p:=⟨w.heap.size+1+1,0,none⟩) (by show w.heap.size≤w.heap.size+1+1;omega) _).setCell (p:=⟨w.heap.size+1+1,1,none⟩) (by show w.heap.size≤w.heap.size+1+1;omega) _).setCell (p:=⟨w.heap.size+1+1,2,none⟩) (by show w.heap.size≤w.heap.size+1+1;omega) _).setCell (p:=⟨w.heap.size+1+1,3,none⟩) (by show w.heap.size≤w.heap.size+1+1;omega) _
 have hkeep:∀i,i≠w.heap.size+1+1→((((w1.setCell ⟨w.heap.size+1+1,0,none⟩ (F D 4)).setCell ⟨w.heap.size+1+1,1,none⟩ (F D 0)).setCell ⟨w.heap.size+1+1,2,none⟩ (C ⟨#[]⟩)).setCell ⟨w.heap.size+1+1,3,none⟩ (G a' l' c')).heap[i]? = w1.heap[i]?:=fun i hi=>by
  rw[M _ _ _ i hi,M _ _ _ i hi,M _ _ _ i hi,M _ _ _ i hi]
 have hsz:((((w1.setCell ⟨w.heap.size+1+1,0,none⟩ (F D 4)).setCell ⟨w.heap.size+1+1,1,none⟩ (F D 0)).setCell ⟨w.heap.size+1+1,2,none⟩ (C ⟨#[]⟩)).setCell ⟨w.heap.size+1+1,3,none⟩ (G a' l' c')).heap.size=w1.heap.size:=by simp[World.setCell]
 generalize ((((w1.setCell ⟨w.heap.size+1+1,0,none⟩ (F D 4)).setCell ⟨w.heap.size+1+1,1,none⟩ (F D 0)).setCell ⟨w.heap.size+1+1,2,none⟩ (C ⟨#[]⟩)).setCell ⟨w.heap.size+1+1,3,none⟩ (G a' l' c'))=Y at E hbb hkeep hsz ⊢
 have hL5:ap (fun i=>w.heap.size≤i) Y (L1++L2) a' l':=ap.kept (Nat.le_of_eq hsz.symm) (fun i hi _=>⟨by have:W.heap.size≤i:=hi;rw[HZ0.out] at this;show w.heap.size≤i;omega,hkeep i (by have:W.heap.size≤i:=hi;rw[HZ0.out] at this;omega)⟩) _ _ _ HL'.out
 obtain⟨t0,t1,t2,t3⟩:=ai E
 simp at t0 t1 t2 t3
 exact bodyPost_ret (v:=O #[K #[F D 4,F D 0,C ⟨#[]⟩,G a' l' c'],F D 0]) (by simp[results,Tryz.results79,go_sem,t0,t1,t2,t3]) rfl ⟨⟨_,_,_,rfl,hlc,hL5⟩,hbb⟩
def f6 (sg:UInt8):T→T→T
 | .node k1 n1 s1 L1,.node k2 n2 s2 L2=>
   if k1=0∨k2=0 then aw
   else if k1=2∧k2=2 then
    .node (kvI (aH (if sg=43 then n1+n2 else if sg=45 then n1-n2 else n1*n2))) (nv (aH (if sg=43 then n1+n2 else if sg=45 then n1-n2 else n1*n2))) ⟨#[]⟩ []
   else if sg=43∧k1=3∧k2=3 then (if s1.size+s2.size≤4000 then .node 3 0 (s1++s2) [] else aw)
   else if sg=43∧k1=4∧k2=4 then (if L1.length+L2.length≤30 then .node 4 0 ⟨#[]⟩ (L1++L2) else aw)
   else aw
theorem gu (sg:UInt8) (k1 n1:Int) (s1:ByteArray) (L1:List T) (k2 n2:Int) (s2:ByteArray) (L2:List T):f6 sg (.node k1 n1 s1 L1) (.node k2 n2 s2 L2) =
 if k1=0∨k2=0 then aw
 else if k1=2∧k2=2 then
  .node (kvI (aH (if sg=43 then n1+n2 else if sg=45 then n1-n2 else n1*n2))) (nv (aH (if sg=43 then n1+n2 else if sg=45 then n1-n2 else n1*n2))) ⟨#[]⟩ []
 else if sg=43∧k1=3∧k2=3 then (if s1.size+s2.size≤4000 then .node 3 0 (s1++s2) [] else aw)
 else if sg=43∧k1=4∧k2=4 then (if L1.length+L2.length≤30 then .node 4 0 ⟨#[]⟩ (L1++L2) else aw)
 else aw:=rfl
def dG (w w':World) (t:T) (e:Ending):Prop:=∃k n s L a l c er,t = .node k n s L∧e=N (O #[vC k n s a l c,F D er])∧l≤c∧ap (fun i=>w.heap.size≤i) w' L a l
theorem dG.flat {w w':World} (k n:Int) (s:ByteArray) (er:Int):dG w w' (.node k n s []) (N (O #[vC k n s none 0 0,F D er])):=⟨k,n,s,[],none,0,0,er,rfl,rfl,I _,df⟩
theorem oW (sg:UInt8) (hsg:sg=43∨sg=45∨sg=42) (k1 k2:Int) (n1 n2:Int) (s1 s2:ByteArray) (a1 a2:Option Addr) (l1 c1 l2 c2:Nat) (L1 L2:List T) (w:World) (hL1:am w L1 a1 l1) (hL2:am w L2 a2 l2) (f1:dF n1=true) (f2:dF n2=true) (hs1:s1.size≤4000) (hs2:s2.size≤4000) (hw1:wtL L1≤500000000000) (hw2:wtL L2≤500000000000) (hl1:l1≤1000) (hl2:l2≤1000) :
 Calls Tryz.prog 79 #[C ⟨#[sg]⟩,vC k1 n1 s1 a1 l1 c1,vC k2 n2 s2 a2 l2 c2] w fun e w'=>dG w w' (f6 sg (.node k1 n1 s1 L1) (.node k2 n2 s2 L2)) e∧Below w.heap.size w w':=by
 rw[gu]
 by_cases h0:k1=0∨k2=0
 ·rw[if_pos h0]
  rcases hsg with rfl | rfl | rfl
  ·exact(jz k1 k2 n1 n2 s1 s2 a1 a2 l1 c1 l2 c2 w h0).mono fun e w' ⟨h,k⟩=>⟨by rw[h];exact dG.flat _ _ _ _,k⟩
  ·exact(jx k1 k2 n1 n2 s1 s2 a1 a2 l1 c1 l2 c2 w h0).mono fun e w' ⟨h,k⟩=>⟨by rw[h];exact dG.flat _ _ _ _,k⟩
  ·exact(jy k1 k2 n1 n2 s1 s2 a1 a2 l1 c1 l2 c2 w h0).mono fun e w' ⟨h,k⟩=>⟨by rw[h];exact dG.flat _ _ _ _,k⟩
 ·rw[if_neg h0]
  have hk1:k1≠0:=fun e=>h0 (.inl e)
  have hk2:k2≠0:=fun e=>h0 (.inr e)
  by_cases h2:k1=2∧k2=2
  ·rw[if_pos h2]
   obtain⟨rfl,rfl⟩:=h2
   rcases hsg with rfl | rfl | rfl
   ·exact(jZ _ _ _ n1 n2 s1 s2 a1 a2 l1 c1 l2 c2 w (fun U=>sB n1 n2 f1 f2 U)).mono fun e w' ⟨h,k⟩=>⟨by rw[h];exact dG.flat _ _ _ _,k⟩
   ·exact(jX _ _ _ n1 n2 s1 s2 a1 a2 l1 c1 l2 c2 w (fun U=>sx n1 n2 f1 f2 U)).mono fun e w' ⟨h,k⟩=>⟨by rw[h];exact dG.flat _ _ _ _,k⟩
   ·exact(jY _ _ _ n1 n2 s1 s2 a1 a2 l1 c1 l2 c2 w (fun U=>sy n1 n2 f1 f2 U)).mono fun e w' ⟨h,k⟩=>⟨by rw[h];exact dG.flat _ _ _ _,k⟩
  ·rw[if_neg h2]
   by_cases h3:sg=43∧k1=3∧k2=3
   ·rw[if_pos h3]
    obtain⟨rfl,rfl,rfl⟩:=h3
    by_cases h4:s1.size+s2.size≤4000
    ·rw[if_pos h4]
     exact(nG n1 n2 s1 s2 a1 a2 l1 c1 l2 c2 w h4).mono fun e w' ⟨h,k⟩=>⟨by rw[h];exact dG.flat _ _ _ _,k⟩
    ·rw[if_neg h4]
     exact(nJ n1 n2 s1 s2 a1 a2 l1 c1 l2 c2 w (by omega) (by omega)).mono fun e w' ⟨h,k⟩=>⟨by rw[h];exact dG.flat _ _ _ _,k⟩
   ·rw[if_neg h3]
    by_cases h4:sg=43∧k1=4∧k2=4
    ·rw[if_pos h4]
     obtain⟨rfl,rfl,rfl⟩:=h4
     have e1:=hL1.length.1
     have e2:=hL2.length.1
     by_cases h5:L1.length+L2.length≤30
     ·rw[if_pos h5]
      refine(lg n1 n2 s1 s2 a1 a2 l1 c1 l2 c2 L1 L2 w hL1 hL2 (by omega) (by omega)).mono ?_
      rintro e w' ⟨⟨a',l',c',h,hlc,hLr⟩,k⟩
      exact⟨⟨4,0,⟨#[]⟩,L1++L2,a',l',c',0,rfl,h,hlc,hLr⟩,k⟩
     ·rw[if_neg h5]
      exact(nH n1 n2 s1 s2 a1 a2 l1 c1 l2 c2 w (by omega) (by omega)).mono fun e w' ⟨h,k⟩=>⟨by rw[h];exact dG.flat _ _ _ _,k⟩
    ·rw[if_neg h4]
     rcases hsg with rfl | rfl | rfl
     ·refine(jC k1 k2 n1 n2 s1 s2 a1 a2 l1 c1 l2 c2 w hk1 hk2 h2 ?_).mono fun e w' ⟨h,k⟩=>⟨by rw[h];exact dG.flat _ _ _ _,k⟩
      by_cases hk:k1=k2
      ·subst hk
       exact .inr ⟨fun e=>h3 ⟨rfl,e,e⟩,fun e=>h4 ⟨rfl,e,e⟩⟩
      ·exact .inl hk
     ·exact(jA k1 k2 n1 n2 s1 s2 a1 a2 l1 c1 l2 c2 w hk1 hk2 h2).mono fun e w' ⟨h,k⟩=>⟨by rw[h];exact dG.flat _ _ _ _,k⟩
     ·exact(jB k1 k2 n1 n2 s1 s2 a1 a2 l1 c1 l2 c2 w hk1 hk2 h2).mono fun e w' ⟨h,k⟩=>⟨by rw[h];exact dG.flat _ _ _ _,k⟩
theorem qA {B:Nat} {a u:World} (k:Below B a u) (p:Nat) (hp:B≤p) (v0 v1 v2 v3:Value):Below B a ((((u.setCell ⟨p,0,none⟩ v0).setCell ⟨p,1,none⟩ v1).setCell ⟨p,2,none⟩ v2).setCell ⟨p,3,none⟩ v3):=
 (((k.setCell (p:=⟨p,0,none⟩) hp v0).setCell (p:=⟨p,1,none⟩) hp v1).setCell (p:=⟨p,2,none⟩) hp v2).setCell (p:=⟨p,3,none⟩) hp v3
def sT:T→Prop
 | .node k n s L=>dF n=true∧s.size≤4000∧wtL L≤500000000000∧L.length≤1000
theorem mr (A:Nat→Prop) (L:List T) (a:Option Addr) (l c:Nat) (w:World) (hL:ap A w L a l) (hl:l=2) (sg:UInt8) (hsg:sg=43∨sg=45∨sg=42) (nb:Nat) (hnb:nb<w.heap.size) (hm:w.cell? ⟨nb,0,none⟩=some (C ⟨#[sg]⟩)) (hok:∀t ∈ L,sT t):Calls Tryz.prog 78 #[G a l c,Q (some ⟨nb,0,none⟩)] w fun e w'=>aL A w w' (on2 (f6 sg) L) e∧Below w.heap.size w w':=by
 have hlen:=hL.len.1
 obtain⟨b,off,k0,n0,s0,L0,a0,l0,c0,ha,hAb,hbl,hd0,x0,x1,x2,x3,hlc0,hs0,hL0⟩:=hL.at (i:=0) (by omega)
 obtain⟨b',off',k1,n1,s1,L1,a1,l1,c1,ha',-,-,hd1,z0,z1,z2,z3,hlc1,hs1,hL1⟩:=hL.at (i:=1) (by omega)
 subst ha
 injection ha' with ha'
 injection ha' with e1 e2
 subst e1 e2
 rw[Nat.zero_mul,Nat.add_zero] at x0 x1 x2 x3
 rw[Nat.one_mul] at z0 z1 z2 z3
 have hLL:L = .node k0 n0 s0 L0 :: .node k1 n1 s1 L1::L.drop 2:=by
  have e0:L = .node k0 n0 s0 L0::L.drop 1:=by simpa using hd0
  rw[hd1] at e0
  exact e0
 obtain⟨kr,nr,sr,Lr,hrr⟩:∃k n s Lr,f6 sg (.node k0 n0 s0 L0) (.node k1 n1 s1 L1) = .node k n s Lr:=by
  cases hx:f6 sg (.node k0 n0 s0 L0) (.node k1 n1 s1 L1) with
  | node k n s Lr=>exact⟨k,n,s,Lr,rfl⟩
 have e1:on2 (f6 sg) L = .node kr nr sr Lr:=by rw[hLL];exact hrr
 rw[e1]
 obtain⟨g1,g2,g3,g4⟩:=hok (.node k0 n0 s0 L0) (by rw[hLL];exact List.mem_cons_self ..)
 obtain⟨g5,g6,g7,g8⟩:=hok (.node k1 n1 s1 L1) (by rw[hLL];exact List.mem_cons_of_mem _ (List.mem_cons_self ..))
 have hq0:=hL0.len.1
 have hq1:=hL1.len.1
 have HC:Hid (∀W,Below w.heap.size w W→Calls Tryz.prog 79 #[C ⟨#[sg]⟩,vC k0 n0 s0 a0 l0 c0,vC k1 n1 s1 a1 l1 c1] W fun e w'=>(∃ar lr cr er,e=N (O #[vC kr nr sr ar lr cr,F D er])∧lr≤cr∧ap (fun i=>W.heap.size≤i) w' Lr ar lr)∧Below W.heap.size W w'):=fun W kk=>by
  refine(oW sg hsg k0 k1 n0 n1 s0 s1 a0 a1 l0 c0 l1 c1 L0 L1 W (ap.lies _ _ _ (hL0.below kk)) (ap.lies _ _ _ (hL1.below kk)) g1 g5 g2 g6 g3 g7 (by omega) (by omega)).mono ?_
  rintro e w' ⟨⟨k,n,s,L',a',l',c',er,ht,he,h1,h2⟩,k'⟩
  rw[hrr] at ht
  injection ht with t1 t2 t3 t4
  subst t1 t2 t3 t4
  exact⟨⟨a',l',c',er,he,h1,h2⟩,k'⟩
 have hsr:sr.size≤9223372036854775807:=by
  have hx:=hrr
  rw[gu] at hx
  have hz:(⟨#[]⟩:ByteArray).size≤9223372036854775807:=by decide
  split at hx
  ·injection hx with _ _ e3 _;rw[←e3];exact hz
  ·split at hx
   ·injection hx with _ _ e3 _;rw[←e3];exact hz
   ·split at hx
    ·split at hx
     ·injection hx with _ _ e3 _;rw[←e3,ByteArray.size_append];omega
     ·injection hx with _ _ e3 _;rw[←e3];exact hz
    ·split at hx
     ·split at hx
      ·injection hx with _ _ e3 _;rw[←e3];exact hz
      ·injection hx with _ _ e3 _;rw[←e3];exact hz
     ·injection hx with _ _ e3 _;rw[←e3];exact hz
 have HSR:=aa hsr
 have hy:=ae w (H #[F D 0,F D 0,C ⟨#[]⟩,G none 0 0] 30)
 have hz:(w.alloc (H #[F D 0,F D 0,C ⟨#[]⟩,G none 0 0] 30)).heap.size=w.heap.size+1:=by simp
 have hb0:Below w.heap.size w (w.alloc (H #[F D 0,F D 0,C ⟨#[]⟩,G none 0 0] 30)):=(J _ _).alloc (I _) _
 have HY:=aa hy
 have HZ:=aa hz
 have HB:=aa hb0
 have HS0:Hid (∀W',Below w.heap.size w W'→(W'.cell? ⟨b,off,none⟩=some (F D k0)∧W'.cell? ⟨b,off+1,none⟩=some (F D n0)∧W'.cell? ⟨b,off+2,none⟩=some (C s0)∧W'.cell? ⟨b,off+3,none⟩=some (G a0 l0 c0))∧(W'.cell? ⟨b,off+4,none⟩=some (F D k1)∧W'.cell? ⟨b,off+5,none⟩=some (F D n1)∧W'.cell? ⟨b,off+6,none⟩=some (C s1)∧W'.cell? ⟨b,off+7,none⟩=some (G a1 l1 c1))∧W'.cell? ⟨nb,0,none⟩=some (C ⟨#[sg]⟩)):=fun W' kk=>by
  have q:∀o,W'.cell? ⟨b,o,none⟩=w.cell? ⟨b,o,none⟩:=fun o=>kk.cell (p:=⟨b,o,none⟩) hbl
  exact⟨⟨(q _).trans x0,(q _).trans x1,(q _).trans x2,(q _).trans x3⟩,⟨(q _).trans z0,(q _).trans z1,(q _).trans z2,(q _).trans z3⟩,(kk.cell (p:=⟨nb,0,none⟩) hnb).trans hm⟩
 clear x0 x1 x2 x3 z0 z1 z2 z3 hd0 hd1 hL0 hL1 hL hLL hlen hy hz hb0 hlc0 hlc1 hm e1 hrr hok g1 g2 g3 g4 g5 g6 g7 g8 hsr hq0 hq1
 subst hl
 go_enter Tryz.func78,Tryz.ntmps78
 go_upto_region 1 with fail
 generalize w.alloc (H #[F D 0,F D 0,C ⟨#[]⟩,G none 0 0] 30)=W at HB HY HZ ⊢
 have HS:Hid (∀W',Below W.heap.size W W'→(W'.cell? ⟨b,off,none⟩=some (F D k0)∧W'.cell? ⟨b,off+1,none⟩=some (F D n0)∧W'.cell? ⟨b,off+2,none⟩=some (C s0)∧W'.cell? ⟨b,off+3,none⟩=some (G a0 l0 c0))∧(W'.cell? ⟨b,off+4,none⟩=some (F D k1)∧W'.cell? ⟨b,off+5,none⟩=some (F D n1)∧W'.cell? ⟨b,off+6,none⟩=some (C s1)∧W'.cell? ⟨b,off+7,none⟩=some (G a1 l1 c1))∧W'.cell? ⟨nb,0,none⟩=some (C ⟨#[sg]⟩)):=fun W' kk=>HS0.out W' (af HB.out kk)
 have D0:Below W.heap.size W W.drew:=(J _ _).drew
 obtain⟨⟨x0,x1,x2,x3⟩,⟨z0,z1,z2,z3⟩,m0⟩:=HS.out W (J _ _)
 have hbW:b<W.heap.size:=by rw[HZ.out];omega
 have hnW:nb<W.heap.size:=by rw[HZ.out];omega
 go_cut [4] (fun s4 wx=>∃p ar lr cr,s4=Q (some ⟨p,0,none⟩)∧wx.heap[p]? = some (H #[F D kr,F D nr,C sr,G ar lr cr] 30 (0,0))∧lr≤cr∧ap (fun i=>W.heap.size≤i∧i≠p) wx Lr ar lr∧Below W.heap.size W wx)
 case first=>
  go_region_held3 (fun W'=>(W'.cell? ⟨b,off,none⟩=some (F D k0)∧W'.cell? ⟨b,off+1,none⟩=some (F D n0)∧W'.cell? ⟨b,off+2,none⟩=some (C s0)∧W'.cell? ⟨b,off+3,none⟩=some (G a0 l0 c0))∧(W'.cell? ⟨b,off+4,none⟩=some (F D k1)∧W'.cell? ⟨b,off+5,none⟩=some (F D n1)∧W'.cell? ⟨b,off+6,none⟩=some (C s1)∧W'.cell? ⟨b,off+7,none⟩=some (G a1 l1 c1))∧W'.cell? ⟨nb,0,none⟩=some (C ⟨#[sg]⟩))
   (first
     | with_reducible exact HS.out _ k1
     | with_reducible exact HS.out _ D0
     | with_reducible exact HS.out _ (k1.alloc k1.size _)
     | with_reducible exact HS.out _ (D0.alloc (I _) _)
     | with_reducible exact HS.out _ (qA k1 W.heap.size (I _) _ _ _ _)
     | with_reducible exact HS.out _ (qA (k1.alloc k1.size _) u1.heap.size k1.size _ _ _ _)
     | exact⟨⟨x0,x1,x2,x3⟩,⟨z0,z1,z2,z3⟩,m0⟩
     | go_keep)
   (first
     | (go_at_call 79;go_fit (HC.out (W.drew.alloc (H #[F D 0,F D 0,C ⟨#[]⟩,G none 0 0] 30)) (af HB.out (D0.alloc (I _) _)));rintro e u1 ⟨⟨ar,lr,cr,er,rfl,hlr,hLr⟩,h1⟩;have k1:Below W.heap.size W u1:=(D0.alloc (I _) _).trans (h1.mono (by simp));have hp:u1.heap[W.heap.size]? = some (H #[F D 0,F D 0,C ⟨#[]⟩,G none 0 0] 30 (0,0)):=(h1.block W.heap.size (by simp)).trans (ae W.drew _);have p0:=ac hp 0;have p1:=ac hp 1;have p2:=ac hp 2;have p3:=ac hp 3;have f0:=aj hp 0;have f1:=aj hp 1;have f2:=aj hp 2;have f3:=aj hp 3;simp at p0 p1 p2 p3;have hW1:W.heap.size+1≤u1.heap.size:=(by have:=h1.size;simp at this;omega))
     | (go_at_call 79;go_fit (HC.out (W.drew) (af HB.out D0));rintro e u1 ⟨⟨ar,lr,cr,er,rfl,hlr,hLr⟩,h1⟩;have k1:Below W.heap.size W u1:=D0.trans h1))
  all_goals
   go_wp2_with fail
   go_meet
  all_goals first
   | (have hq:ap (fun i=>W.heap.size≤i∧i≠u1.heap.size) (u1.alloc (H #[F D kr,F D nr,C sr,G ar lr cr] 30)) Lr ar lr:=ap.kept (by simp) (fun i hi hl=>⟨⟨hi,by omega⟩,Below.heap_alloc u1 _ i hl⟩) _ _ _ hLr
      with_reducible exact⟨u1.heap.size,ar,lr,cr,rfl,ae u1 _,hlr,hq,k1.alloc k1.size _⟩)
   | (have eP:∀X:World,(((X.setCell ⟨W.heap.size,0,none⟩ (F D kr)).setCell ⟨W.heap.size,1,none⟩ (F D nr)).setCell ⟨W.heap.size,2,none⟩ (C sr)).setCell ⟨W.heap.size,3,none⟩ (G ar lr cr)=au X W.heap.size 0 [F D kr,F D nr,C sr,G ar lr cr]:=fun _=>rfl
      rw[eP]
      exact⟨W.heap.size,ar,lr,cr,rfl,dh hp rfl _ _ _ _,hlr,ap.kept (by rw[aD];exact I _) (fun i hi hl=>⟨⟨by have:(W.drew.alloc (H #[F D 0,F D 0,C ⟨#[]⟩,G none 0 0] 30)).heap.size≤i:=hi;simp at this;omega,by have:(W.drew.alloc (H #[F D 0,F D 0,C ⟨#[]⟩,G none 0 0] 30)).heap.size≤i:=hi;simp at this;omega⟩,aB _ _ _ u1 i (by have:(W.drew.alloc (H #[F D 0,F D 0,C ⟨#[]⟩,G none 0 0] 30)).heap.size≤i:=hi;simp at this;omega)⟩) _ _ _ hLr,k1.trans (aE W.heap.size _ _ u1)⟩)
 case rest=>
 obtain⟨p,ar,lr,cr,rfl,hpb,hlr,hLr,kx⟩:=hcut
 have hb1:=(kx.block w.heap.size (by rw[HZ.out];omega)).trans HY.out
 have hplt:p<wc.heap.size:=lt_block' hpb
 obtain⟨r0,r1,r2,r3⟩:=ai hb1
 obtain⟨fr0,fr1,fr2,fr3⟩:=aq hb1
 simp at r0 r1 r2 r3
 obtain⟨o0,o1,o2,o3⟩:=ai hpb
 simp at o0 o1 o2 o3
 have hs1:w.heap.size<wc.heap.size:=lt_block' hb1
 have HB1:=aa hb1
 have HLR:=aa hLr
 have HKX:=aa (af HB.out kx)
 clear x0 x1 x2 x3 z0 z1 z2 z3 m0 hb1 hpb hLr kx
 go_wp2_with fail
 have eP:∀X:World,(((X.setCell ⟨w.heap.size,0,none⟩ (F D kr)).setCell ⟨w.heap.size,1,none⟩ (F D nr)).setCell ⟨w.heap.size,2,none⟩ (C sr)).setCell ⟨w.heap.size,3,none⟩ (G ar lr cr)=au X (w.heap.size) 0 [F D kr,F D nr,C sr,G ar lr cr]:=fun _=>rfl
 rw[eP]
 have E:=dh HB1.out rfl (F D kr) (F D nr) (C sr) (G ar lr cr)
 have hbb:Below w.heap.size w (au wc (w.heap.size) 0 [F D kr,F D nr,C sr,G ar lr cr]):=HKX.out.trans ((aE (w.heap.size) _ _ wc).mono (I _))
 have hoth:∀j,j≠w.heap.size→(au wc (w.heap.size) 0 [F D kr,F D nr,C sr,G ar lr cr]).heap[j]? = wc.heap[j]?:=fun j hj=>aB _ _ _ _ j hj
 have hsz:(au wc (w.heap.size) 0 [F D kr,F D nr,C sr,G ar lr cr]).heap.size=wc.heap.size:=aD _ _ _ _
 generalize au wc (w.heap.size) 0 [F D kr,F D nr,C sr,G ar lr cr]=Y at E hbb hoth hsz ⊢
 obtain⟨t0,t1,t2,t3⟩:=ai E
 simp at t0 t1 t2 t3
 exact bodyPost_ret (v:=K #[F D kr,F D nr,C sr,G ar lr cr]) (by simp[results,Tryz.results78,go_sem,t0,t1,t2,t3]) rfl ⟨⟨kr,nr,sr,ar,lr,cr,Lr,rfl,rfl,hlr,HSR.out,ap.kept (Nat.le_of_eq hsz.symm) (fun i hi hl=>⟨.inr (by have:W.heap.size≤i:=hi.1;rw[HZ.out] at this;omega),hoth i (by have:W.heap.size≤i:=hi.1;rw[HZ.out] at this;omega)⟩) _ _ _ HLR.out⟩,hbb⟩
def ej:List T→T
 | []=>aw
 | .node k n s Lt::r=>if k=0 then ej r else .node k n s Lt
theorem sO (A:Nat→Prop) (L:List T) (a:Option Addr) (l c:Nat) (w:World) (hL:ap A w L a l) (hl:l≤1000):Calls Tryz.prog 53 #[G a l c] w fun e w'=>aL A w w' (ej L) e∧Below w.heap.size w w':=by
 obtain⟨R,hR⟩:∃R,R=ej L:=⟨_,rfl⟩
 rw[←hR]
 have H0:=aa (show R=ej (L.drop 0) from hR)
 clear hR
 have hb0:Below w.heap.size w (w.alloc (H #[F D 0,F D 0,C ⟨#[]⟩,G none 0 0] 30)):=(J _ _).alloc (I _) _
 have hz:(w.alloc (H #[F D 0,F D 0,C ⟨#[]⟩,G none 0 0] 30)).heap.size=w.heap.size+1:=by simp
 have hy:=ae w (H #[F D 0,F D 0,C ⟨#[]⟩,G none 0 0] 30)
 have B0:=aa hb0
 have Z0:=aa hz
 have HL:=aa hL
 have HLL:=aa hL.len.1
 have HRB:Hid (∀W',Below (w.heap.size+1) (w.alloc (H #[F D 0,F D 0,C ⟨#[]⟩,G none 0 0] 30)) W'→W'.heap[w.heap.size]? = some (H #[F D 0,F D 0,C ⟨#[]⟩,G none 0 0] 30 (0,0))):=fun W' k=>(k.block w.heap.size (by omega)).trans hy
 clear hb0 hz hy hL
 go_enter Tryz.func53,Tryz.ntmps53
 go_wp2_with fail
 generalize w.alloc (H #[F D 0,F D 0,C ⟨#[]⟩,G none 0 0] 30)=W0 at B0 Z0 HRB ⊢
 go_loopg [7] l (fun q s7 wr=>∃(i:Nat),i≤l∧l-i≤q∧s7=F D i∧Below (w.heap.size+1) W0 wr∧R=ej (L.drop i))
 case atStart=>exact⟨0,Nat.zero_le _,by omega,rfl,J _ _,H0.out⟩
 case round=>
  clear H0
  obtain⟨i,hi,hg,rfl,hbw,hfe⟩:=hrel
  have HFE:=aa hfe
  clear hfe
  by_cases hlt:i<l
  ·skip
   obtain⟨b,off,k,n,s,Lt,a1,l1,c1,ha,hAb,hbl,hd,x0,x1,x2,x3,hlc,hss,hLt⟩:=HL.out.at (i:=i) hlt
   subst ha
   have hw0:Below w.heap.size w wr:=B0.out.trans (hbw.mono (by omega))
   have hq:∀o,wr.cell? ⟨b,o,none⟩=w.cell? ⟨b,o,none⟩:=fun o=>hw0.cell (p:=⟨b,o,none⟩) hbl
   have y0:=(hq _).trans x0
   have y1:=(hq _).trans x1
   have y2:=(hq _).trans x2
   have y3:=(hq _).trans x3
   have hil:(i:Int)<l:=by omega
   have hzw:w.heap.size+1≤wr.heap.size:=by have:=hbw.size;rw[Z0.out] at this;exact this
   have HLT:=aa hLt
   have HSS:=aa hss
   have HLC:=aa hlc
   have HD:=aa hd
   have hr:=HFE.out
   rw[HD.out] at hr
   unfold ej at hr
   have hkx:Below wr.heap.size wr (wr.alloc (H #[F D k,F D n,C s,G a1 l1 c1] 30)):=(J _ _).alloc (I _) _
   clear x0 x1 x2 x3 hq hd hLt hss hlc HD HFE
   by_cases hk:k=0
   ·have hk':(k != 0)=false:=by simp[hk]
    rw[if_pos hk] at hr
    have HRT:=aa hr
    have HKX:=aa (hbw.trans (hkx.mono hzw))
    clear hr hk hkx
    go_wp2_with fail
    go_roundg (l-(i+1))
    case measure=>omega
    case rel=>exact⟨i+1,by omega,by omega,by go_num,HKX.out,HRT.out⟩
   ·have hk':(k != 0)=true:=by simp[hk]
    rw[if_neg hk] at hr
    have HRT:=aa hr
    clear hr hk
    have hb1:=(hkx.block w.heap.size (by omega)).trans (HRB.out wr hbw)
    obtain⟨r0,r1,r2,r3⟩:=ai hb1
    obtain⟨fr0,fr1,fr2,fr3⟩:=aq hb1
    simp at r0 r1 r2 r3
    have HBX:=aa hb1
    have HBW:=aa ((B0.out.trans (hbw.mono (by omega))).trans (hkx.mono (by omega)))
    have HKX:=aa hkx
    have HBW0:=aa hbw
    clear hb1 hkx hbw
    go_wp2_with fail
    generalize hWX:wr.alloc (H #[F D k,F D n,C s,G a1 l1 c1] 30)=WX at HBX HBW HKX r0 r1 r2 r3 fr0 fr1 fr2 fr3 ⊢
    have eP:∀X:World,(((X.setCell ⟨w.heap.size,0,none⟩ (F D k)).setCell ⟨w.heap.size,1,none⟩ (F D n)).setCell ⟨w.heap.size,2,none⟩ (C s)).setCell ⟨w.heap.size,3,none⟩ (G a1 l1 c1)=au X (w.heap.size) 0 [F D k,F D n,C s,G a1 l1 c1]:=fun _=>rfl
    rw[eP]
    have E:=dh HBX.out rfl (F D k) (F D n) (C s) (G a1 l1 c1)
    have hbb:Below w.heap.size w (au WX (w.heap.size) 0 [F D k,F D n,C s,G a1 l1 c1]):=HBW.out.trans ((aE (w.heap.size) _ _ WX).mono (I _))
    have hoth:∀j,j≠w.heap.size→(au WX (w.heap.size) 0 [F D k,F D n,C s,G a1 l1 c1]).heap[j]? = WX.heap[j]?:=fun j hj=>aB _ _ _ _ j hj
    have hsz:(au WX (w.heap.size) 0 [F D k,F D n,C s,G a1 l1 c1]).heap.size=WX.heap.size:=aD _ _ _ _
    generalize au WX (w.heap.size) 0 [F D k,F D n,C s,G a1 l1 c1]=Y at E hbb hoth hsz ⊢
    obtain⟨t0,t1,t2,t3⟩:=ai E
    simp at t0 t1 t2 t3
    exact bodyPost_ret (v:=K #[F D k,F D n,C s,G a1 l1 c1]) (by simp[results,Tryz.results53,go_sem,t0,t1,t2,t3]) rfl ⟨⟨k,n,s,a1,l1,c1,Lt,rfl,HRT.out,HLC.out,HSS.out,ap.kept hbb.size (fun i hi hl=>⟨.inl hi,hbb.block i hl⟩) _ _ _ HLT.out⟩,hbb⟩
  ·have hil:¬(i:Int)<l:=by omega
   have hr:=HFE.out
   rw[List.drop_eq_nil_of_le (by have:=HLL.out;omega)] at hr
   have hzw:w.heap.size+1≤wr.heap.size:=by have:=hbw.size;rw[Z0.out] at this;exact this
   have HRT:=aa (show R = .node 0 0 ⟨#[]⟩ [] from hr)
   clear HFE hr
   have hb1:=HRB.out wr hbw
   obtain⟨r0,r1,r2,r3⟩:=ai hb1
   obtain⟨fr0,fr1,fr2,fr3⟩:=aq hb1
   simp at r0 r1 r2 r3
   have HBX:=aa hb1
   have HBW:=aa (B0.out.trans (hbw.mono (by omega)))
   clear hb1 hbw
   go_wp2_with fail
   have eP:∀X:World,(((X.setCell ⟨w.heap.size,0,none⟩ (F D 0)).setCell ⟨w.heap.size,1,none⟩ (F D 0)).setCell ⟨w.heap.size,2,none⟩ (C ⟨#[]⟩)).setCell ⟨w.heap.size,3,none⟩ (G none 0 0)=au X (w.heap.size) 0 [F D 0,F D 0,C ⟨#[]⟩,G none 0 0]:=fun _=>rfl
   rw[eP]
   have E:=dh HBX.out rfl (F D 0) (F D 0) (C ⟨#[]⟩) (G none 0 0)
   have hbb:Below w.heap.size w (au wr (w.heap.size) 0 [F D 0,F D 0,C ⟨#[]⟩,G none 0 0]):=HBW.out.trans ((aE (w.heap.size) _ _ wr).mono (I _))
   have hoth:∀j,j≠w.heap.size→(au wr (w.heap.size) 0 [F D 0,F D 0,C ⟨#[]⟩,G none 0 0]).heap[j]? = wr.heap[j]?:=fun j hj=>aB _ _ _ _ j hj
   have hsz:(au wr (w.heap.size) 0 [F D 0,F D 0,C ⟨#[]⟩,G none 0 0]).heap.size=wr.heap.size:=aD _ _ _ _
   generalize au wr (w.heap.size) 0 [F D 0,F D 0,C ⟨#[]⟩,G none 0 0]=Y at E hbb hoth hsz ⊢
   obtain⟨t0,t1,t2,t3⟩:=ai E
   simp at t0 t1 t2 t3
   exact bodyPost_ret (v:=K #[F D 0,F D 0,C ⟨#[]⟩,G none 0 0]) (by simp[results,Tryz.results53,go_sem,t0,t1,t2,t3]) rfl ⟨by rw[HRT.out];exact aL.flat _ _ _ (by decide),hbb⟩
inductive Tm where
 | node (k:Int) (v:T) (nm:ByteArray) (A:List Tm)
def Tm.kind:Tm→Int
 | .node k _ _ _=>k
def Tm.name:Tm→ByteArray
 | .node _ _ nm _=>nm
mutual
def ek (w:World):Tm→Nat→Nat→Prop
 | .node k v nm A,b,off=>nm.size≤9223372036854775807∧w.cell? ⟨b,off,none⟩=some (F D k)∧bY w v b (off+1)∧w.cell? ⟨b,off+5,none⟩=some (C nm)∧∃a l c,w.cell? ⟨b,off+6,none⟩=some (G a l c)∧l≤c∧aW w A a l
def aW (w:World):List Tm→Option Addr→Nat→Prop
 | [],_,l=>l=0
 | t::ts,a,l=>∃b off,a=some ⟨b,off,none⟩∧l=ts.length+1∧l≤9223372036854775807∧b<w.heap.size∧ek w t b off∧aW w ts (some ⟨b,off+7,none⟩) ts.length
end
theorem aW.len {w:World} {A:List Tm} {a:Option Addr} {l:Nat} (h:aW w A a l):l=A.length∧l≤9223372036854775807:=by
 cases A with
 | nil=>unfold aW at h;subst h;exact⟨rfl,by omega⟩
 | cons t ts=>unfold aW at h;obtain⟨b,off,_,h1,h2,_⟩:=h;exact⟨by simpa using h1,h2⟩
mutual
theorem ek.below {w w':World} (k:Below w.heap.size w w'):∀(t:Tm) (b off:Nat),b<w.heap.size→ek w t b off→ek w' t b off
 | .node kk v nm A,b,off,hb,h=>by
   unfold ek at h ⊢
   obtain⟨hs,h0,hv,h1,a,l,c,h2,hlc,hA⟩:=h
   exact⟨hs,(k.cell hb).trans h0,bY.below k v b _ hb hv,(k.cell hb).trans h1,a,l,c,(k.cell hb).trans h2,hlc,aW.below k A a l hA⟩
theorem aW.below {w w':World} (k:Below w.heap.size w w'):∀(A:List Tm) (a:Option Addr) (l:Nat),aW w A a l→aW w' A a l
 | [],_,_,h=>by unfold aW at h ⊢;exact h
 | t::ts,a,l,h=>by
   unfold aW at h ⊢
   obtain⟨b,off,h1,h2,h3,h4,h5,h6⟩:=h
   exact⟨b,off,h1,h2,h3,Nat.lt_of_lt_of_le h4 k.size,ek.below k t b off h4 h5,aW.below k ts _ _ h6⟩
end
theorem aW.get {w:World}:∀{L:List Tm} {a:Option Addr} {l:Nat} (h:aW w L a l) {i:Nat} (hi:i<l),∃b off t,a=some ⟨b,off,none⟩∧b<w.heap.size∧L.drop i=t::L.drop (i+1)∧ek w t b (off+i*7)
 | [],_,_,h,i,hi=>by unfold aW at h;omega
 | t::ts,a,l,h,i,hi=>by
   unfold aW at h
   obtain⟨b,off,h1,h2,h3,h4,h5,h6⟩:=h
   cases i with
   | zero=>exact⟨b,off,t,h1,h4,rfl,by simpa using h5⟩
   | succ i=>
     obtain⟨b',off',t',e1,e3,e4,e5⟩:=aW.get h6 (i:=i) (by omega)
     injection e1 with e1
     injection e1 with e1 e6
     subst e1 e6
     exact⟨b,off,t',h1,e3,e4,by rw[show off+(i+1)*7=off+7+i*7 by omega];exact e5⟩
abbrev mC (k vk vn:Int) (vs:ByteArray) (va:Option Addr) (vl vc:Nat) (nm:ByteArray) (a:Option Addr) (l c:Nat):List Value:=[F D k,F D vk,F D vn,C vs,G va vl vc,C nm,G a l c]
structure bd (w:World) (k vk vn:Int) (vs:ByteArray) (va:Option Addr) (vl vc:Nat) (nm:ByteArray) (a:Option Addr) (l c:Nat) (Lv:List T) (A:List Tm):Prop where
 nms:nm.size≤9223372036854775807
 vss:vs.size≤9223372036854775807
 vlc:vl≤vc
 val:am w Lv va vl
 lc:l≤c
 args:aW w A a l
theorem bd.below {w w':World} {k vk vn:Int} {vs:ByteArray} {va:Option Addr} {vl vc:Nat} {nm:ByteArray} {a:Option Addr} {l c:Nat} {Lv:List T} {A:List Tm} (h:bd w k vk vn vs va vl vc nm a l c Lv A) (q:Below w.heap.size w w'):bd w' k vk vn vs va vl vc nm a l c Lv A:=⟨h.nms,h.vss,h.vlc,am.below q _ _ _ h.val,h.lc,aW.below q _ _ _ h.args⟩
theorem aW.at {w:World} {L:List Tm} {a:Option Addr} {l:Nat} (h:aW w L a l) {i:Nat} (hi:i<l):∃b off k vk vn vs va vl vc nm a' l' c' Lv A',a=some ⟨b,off,none⟩∧b<w.heap.size∧L.drop i = .node k (.node vk vn vs Lv) nm A'::L.drop (i+1)∧(w.cell? ⟨b,off+i*7,none⟩=some (F D k)∧w.cell? ⟨b,off+i*7+1,none⟩=some (F D vk)∧w.cell? ⟨b,off+i*7+2,none⟩=some (F D vn)∧w.cell? ⟨b,off+i*7+3,none⟩=some (C vs)∧w.cell? ⟨b,off+i*7+4,none⟩=some (G va vl vc)∧w.cell? ⟨b,off+i*7+5,none⟩=some (C nm)∧w.cell? ⟨b,off+i*7+6,none⟩=some (G a' l' c'))∧bd w k vk vn vs va vl vc nm a' l' c' Lv A':=by
 obtain⟨b,off,t,e1,e2,e3,e4⟩:=h.get hi
 obtain⟨k,v,nm,A'⟩:=t
 obtain⟨vk,vn,vs,Lv⟩:=v
 unfold ek at e4
 obtain⟨h1,h2,h3,h4,a',l',c',h5,h6,h7⟩:=e4
 unfold bY at h3
 obtain⟨g1,va,vl,vc,g2,g3,g4,g5,g6,g7⟩:=h3
 exact⟨b,off,k,vk,vn,vs,va,vl,vc,nm,a',l',c',Lv,A',e1,e2,e3,⟨h2,g2,g3,g4,g5,h4,h5⟩,⟨h1,g1,g6,g7,h6,h7⟩⟩
structure Th where
 edge:Bool
 id:Int
 typ:ByteArray
 props:List AP
def Th.zero:Th:=⟨false,0,⟨#[]⟩,[]⟩
def rH (w:World) (x:Th) (v:Value):Prop:=∃P pa pl pc,v=K #[.bool x.edge,F D x.id,C x.typ,G pa pl pc]∧x.typ.size≤9223372036854775807∧aX w P pa pl∧aA (eg fI w) P x.props
def bI (w:World) (m:Nat) (env:ByteArray→Option Th):Prop:=∃es clk,w.heap[m]? = some (.map es clk)∧cm es.toList∧∀s,match env s with
 | some x=>∃v,bH s es.toList=some v∧rH w x v
 | none=>bH s es.toList=none
theorem rH.below {w w':World} {x:Th} {v:Value} (h:rH w x v) (k:Below w.heap.size w w'):rH w' x v:=by
 obtain⟨P,pa,pl,pc,h1,h2,h3,h4⟩:=h
 exact⟨P,pa,pl,pc,h1,h2,h3.below k,h4.mono fun p x _ _ hp=>hp.below k⟩
theorem bI.below {w w':World} {m:Nat} {env:ByteArray→Option Th} (h:bI w m env) (k:Below w.heap.size w w'):bI w' m env:=by
 obtain⟨es,clk,h1,h2,h3⟩:=h
 refine⟨es,clk,(k.block m (Array.getElem?_eq_some_iff.1 h1).1).trans h1,h2,fun s=>?_⟩
 have:=h3 s
 cases he:env s with
 | none=>rw[he] at this;exact this
 | some x=>
   rw[he] at this
   obtain⟨v,q1,q2⟩:=this
   exact⟨v,q1,q2.below k⟩
def dp:List (List UInt8):=[[43],[45],[42],[61],[60],[60,61],[110,111,116],[111,114],[97,110,100],[105,110],[110,117,108,108],[115,105,122,101],[104,101,97,100],[99,111,97,108,101,115,99,101],[108,105,115,116],[105,100],[116,121,112,101]]
def fK (nm:ByteArray):List (List UInt8)→Nat→Option Nat
 | [],_=>none
 | k::ks,i=>if (nm==⟨k.toArray⟩)=true then some i else fK nm ks (i+1)
def bN (nm:ByteArray):Option Nat:=fK nm dp 0
def an (i:Nat):Int:=if i=13∨i=14 then -1 else if i=6∨10≤i then 1 else 2
def opF:Nat→List T→T
 | 0,L=>on2 (f6 43) L
 | 1,L=>on2 (f6 45) L
 | 2,L=>on2 (f6 42) L
 | 3,L=>on2 cq L
 | 4,L=>on2 cy L
 | 5,L=>on2 (fun x y=>cG (cy y x)) L
 | 6,L=>cG (hdT L)
 | 7,L=>bG 1 L
 | 8,L=>bG 0 L
 | 9,L=>on2 mZ L
 | 10,L=>fJ (hdT L)
 | 11,L=>ni (hdT L)
 | 12,L=>n6 (hdT L)
 | 13,L=>ej L
 | 14,L=>eI L
 | _,L=>hdT L
def jE (b:Nat):Nat→Value
 | 0=>fcl 78 b
 | 1=>fcl 78 (b+1)
 | 2=>fcl 78 (b+2)
 | 3=>fpl 40
 | 4=>fpl 42
 | 5=>fpl 44
 | 6=>fpl 46
 | 7=>fcl 81 (b+3)
 | 8=>fcl 81 (b+4)
 | 9=>fpl 48
 | 10=>fpl 49
 | 11=>fpl 51
 | 12=>fpl 52
 | 13=>fpl 53
 | 14=>fpl 54
 | 15=>fpl 55
 | _=>.nilFunc
theorem j8 (nm:ByteArray) (g:Nat→Value) (n:Nat→Int):∀(ks:List (List UInt8)) (i:Nat),bH nm ((ks.zipIdx i).map fun p=>ent p.1 (n p.2) (g p.2) p.2)=(fK nm ks i).map fun j=>K #[F D (n j),g j]
 | [],i=>rfl
 | k::ks,i=>by
   rw[List.zipIdx_cons,List.map_cons]
   show(if (nm==⟨k.toArray⟩)=true then some (Value.agg #[F D (n i),g i]) else bH nm ((ks.zipIdx (i+1)).map fun p=>ent p.1 (n p.2) (g p.2) p.2))=_
   rw[j8 nm g n ks (i+1)]
   show _=Option.map _ (if (nm==⟨k.toArray⟩)=true then some i else fK nm ks (i+1))
   split<;>rfl
theorem ma (nm:ByteArray) (b:Nat):bH nm (aC b)=(bN nm).map fun i=>K #[F D (an i),jE b i]:=j8 nm (jE b) an dp 0
def kH (env:ByteArray→Option Th) (g:Th→T):List Tm→T
 | []=>aw
 | x::_=>g ((env x.name).getD Th.zero)
def cR (nm:ByteArray) (x:Th):T:=
 match x.props.find? (fun p=>p.name.toList==nm.toList) with
 | some p=>p.t
 | none=>aw
def fj (env:ByteArray→Option Th) (A:List Tm) (L:List T) (o:Option Nat):T:=
 match o with
 | none=>aw
 | some i=>if i=16 then kH env (fun x=>.node 3 0 x.typ []) A else opF i L
def aI (env:ByteArray→Option Th):Nat→Tm→T
 | 0,_=>aw
 | d+1,.node k v nm A=>
   if k=1 then v
   else if k=2 then eL ((env nm).getD Th.zero).id
   else if k=3 then kH env (cR nm) A
   else fj env A (A.map (aI env d)) (bN nm)
end Go.Proofs.YtijjpoohhgapoaaGreatDoor

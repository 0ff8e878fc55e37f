import Derived.Test.YtijjpoohhgapoaaGreatDoorVQAX
namespace Go.Proofs.YtijjpoohhgapoaaGreatDoor
open Go.RowKit
set_option linter.unusedVariables false
set_option maxHeartbeats 4000000
set_option maxRecDepth 100000
open Value renaming string → C, int → G, slice → H, agg → Q, tuple → S
open IntKind renaming i64 → D
open Obj renaming cells → I
open RowKit.Below renaming refl → J
open Nat renaming le_refl → K, lt_of_lt_of_le → N
open Ending renaming returned → M
open List renaming mem_cons_self → O
def cQ:T→Bool
 | .node k n s L=>decide (k=0)&&decide (n=0)&&decide (s=⟨#[]⟩)&&decide (L.length=0)
theorem bT (t:T):cQ t=true ↔ t=aw:=by
 obtain⟨k,n,s,L⟩:=t
 unfold cQ aw
 simp only[Bool.and_eq_true,decide_eq_true_eq,T.node.injEq,List.length_eq_zero_iff]
 exact⟨fun⟨⟨⟨h1,h2⟩,h3⟩,h4⟩=>⟨h1,h2,h3,h4⟩,fun⟨h1,h2,h3,h4⟩=>⟨⟨⟨h1,h2⟩,h3⟩,h4⟩⟩
def g9 (nm:ByteArray) (A:List Tm) (v:T):Int:=if nm=⟨#[]⟩∧A.length=0∧aS.kT0 v≠4 then chk 6 v else 6
def kZ (env:ByteArray→Option Th) (nm:ByteArray) (A:List Tm):Int:=if A.length=0∧cW nm=true then (if (env nm).isSome=true then 0 else 5) else 6
def fy (R:Tm→Int) (nm:ByteArray):List Tm→Int
 | [x]=>if x.kind=2∧Go.Proofs.YtijjpoohhgapoaaGreatDoor.nm nm=true then R x else 6
 | _=>6
def gN (env:ByteArray→Option Th) (i:Nat):List Tm→Int
 | []=>0
 | x::_=>if i=15∧x.kind≠2∨i=16∧ck env x.kind x.name=false then 3 else 0
def iJ (env:ByteArray→Option Th) (R:Tm→Int) (A:List Tm):Option Nat→Int
 | none=>6
 | some i=>if an i = -1∨an i=A.length then (if 30<A.length then 2 else dq (A.map R) (gN env i A)) else 6
def bi (env:ByteArray→Option Th):Nat→Tm→Int
 | 0,_=>2
 | d+1,.node k v nm A=>if k=1 then g9 nm A v else if cQ v=true then (if k=2 then kZ env nm A else if k=3 then fy (bi env d) nm A else if k=4 then iJ env (bi env d) A (bN nm) else 6) else 6
theorem n8 {E:List Int} {z:Int} (e:Int) (F:List Int) (h:∀x ∈ E,x=0):dq (E++e::F) z=if e=0 then dq F z else e:=by
 induction E with
 | nil=>rfl
 | cons x E ih=>
   have h0:x=0:=h x (O ..)
   show(if x=0 then dq (E++e::F) z else x)=_
   rw[if_pos h0]
   exact ih fun y hy=>h y (List.mem_cons_of_mem _ hy)
theorem pA {E:List Int} {z:Int} (h:∀x ∈ E,x=0):dq E z=z:=by
 induction E with
 | nil=>rfl
 | cons x E ih=>
   have h0:x=0:=h x (O ..)
   show(if x=0 then dq E z else x)=_
   rw[if_pos h0]
   exact ih fun y hy=>h y (List.mem_cons_of_mem _ hy)
theorem sP {w:World} {k n:Int} {s:ByteArray} {a:Option Addr} {l c:Nat} {e:Int} (h:iO w (Q #[G D k,G D n,C s,H a l c]) 0 e) (W:World) (hW:Below w.heap.size w W):Calls Tryz.prog 83 #[vC k n s a l c] W fun x w'=>x=M (G D e)∧Below W.heap.size W w':=by
 have HC:Hid (∀V,Below w.heap.size w V→Calls Tryz.prog 117 #[vC k n s a l c,G D 0] V fun r w''=>r=M (G D e)∧Below V.heap.size V w''):=fun V q=>(h V q).1
 have b0:Below w.heap.size w (W.alloc (I #[G D k,G D n,C s,H a l c] 30)):=hW.alloc hW.size _
 have bW:Below W.heap.size W (W.alloc (I #[G D k,G D n,C s,H a l c] 30)):=(J _ _).alloc (K _) _
 have HB0:=aa b0
 have HBW:=aa bW
 clear h b0 bW hW
 go_enter Tryz.func83,Tryz.ntmps83
 go_wp2_with fail
 refine(HC.out _ HB0.out).mono ?_
 rintro e w1 ⟨rfl,k1⟩
 have hbb:=af HBW.out k1
 go_wp2_with fail
 go_ret
 exact⟨rfl,hbb⟩
theorem oo {B:Nat} (w0 w:World) (k vk vn:Int) (vs:ByteArray) (va:Option Addr) (vl vc:Nat) (nm:ByteArray) (a:Option Addr) (l c:Nat) (Lv:List T) (A:List Tm) (hw:Below w0.heap.size w0 w) (hB:B≤w0.heap.size) (hT:bD B w0) (ht:bd w0 k vk vn vs va vl vc nm a l c Lv A) (hI:InT (.node vk vn vs Lv)):Calls Tryz.prog 85 #[Q #[G D k,G D vk,G D vn,C vs,H va vl vc,C nm,H a l c]] w fun e w'=>(e=M (G D (g9 nm A (.node vk vn vs Lv))))∧Below w.heap.size w w':=by
 have HLEN:=aa ht.args.len.1
 have hc:∀W,Below w0.heap.size w0 W→Calls Tryz.prog 83 #[vC vk vn vs va vl vc] W fun e w'=>e=M (G D (chk 6 (.node vk vn vs Lv)))∧Below W.heap.size W w':=fun W hW=>sP (pJ B w0 hB hT 6 0 rfl vk vn vs va vl vc Lv ht.vss hI ht.val) W hW
 obtain⟨ce,hce⟩:∃z,z=chk 6 (.node vk vn vs Lv):=⟨_,rfl⟩
 obtain⟨X,hX⟩:∃z,z=g9 nm A (.node vk vn vs Lv):=⟨_,rfl⟩
 rw[←hce] at hc
 rw[←hX]
 have HX1:Hid (nm=⟨#[]⟩→A = []→vk≠4→X=ce):=fun h1 h2 h3=>by rw[hX,hce];exact if_pos ⟨h1,by rw[h2];rfl,h3⟩
 have HX2:Hid (nm≠⟨#[]⟩∨A ≠ []∨vk=4→X=6):=fun h=>by
  rw[hX]
  refine if_neg fun g=>?_
  rcases h with h | h | h
  ·exact h g.1
  ·exact h (List.length_eq_zero_iff.1 g.2.1)
  ·exact g.2.2 h
 have HC:=aa hc
 have HW:=aa hw
 clear hc hw ht hT hI hX hce
 by_cases hs:nm=⟨#[]⟩
 ·have hs':=dg
  by_cases hl:l=0
  ·have HA:Hid (A = []):=List.length_eq_zero_iff.1 (by have:=HLEN.out;omega)
   by_cases hv:vk=4
   ·subst hl hs hv
    have hb0:Below w.heap.size w (w.alloc (I #[G D k,G D 4,G D vn,C vs,H va vl vc,C ⟨#[]⟩,H a 0 c] 33)):=(J _ _).alloc (K _) _
    have HB:=aa hb0
    clear hb0
    go_enter Tryz.func85,Tryz.ntmps85
    go_wp2_with fail
    go_ret
    exact⟨ag (HX2.out (by simp)).symm,HB.out⟩
   ·have hv':(vk==4)=false:=by simp[hv]
    subst hl hs
    have hb0:Below w.heap.size w (w.alloc (I #[G D k,G D vk,G D vn,C vs,H va vl vc,C ⟨#[]⟩,H a 0 c] 33)):=(J _ _).alloc (K _) _
    have HB:=aa hb0
    have HBW:=aa (HW.out.trans (hb0.mono HW.out.size))
    clear hb0
    go_enter Tryz.func85,Tryz.ntmps85
    go_wp2_with fail
    refine(HC.out _ HBW.out).mono ?_
    rintro e u1 ⟨rfl,k1⟩
    have hbb:=af HB.out k1
    go_wp2_with fail
    go_ret
    exact⟨ag (HX1.out (by first | rfl | trivial) HA.out hv).symm,hbb⟩
  ·have HA:Hid (A ≠ []):=fun e=>by have hlen:=HLEN.out;rw[e] at hlen;exact hl hlen
   have hl':(0:Int)<l:=by omega
   subst hs
   have hb0:Below w.heap.size w (w.alloc (I #[G D k,G D vk,G D vn,C vs,H va vl vc,C ⟨#[]⟩,H a l c] 33)):=(J _ _).alloc (K _) _
   have HB:=aa hb0
   clear hb0
   go_enter Tryz.func85,Tryz.ntmps85
   go_wp2_with fail
   go_ret
   exact⟨ag (HX2.out (.inr (.inl HA.out))).symm,HB.out⟩
 ·have hs':=bp hs
  have hb0:Below w.heap.size w (w.alloc (I #[G D k,G D vk,G D vn,C vs,H va vl vc,C nm,H a l c] 33)):=(J _ _).alloc (K _) _
  have HB:=aa hb0
  clear hb0
  go_enter Tryz.func85,Tryz.ntmps85
  go_wp2_with fail
  go_ret
  exact⟨ag (HX2.out (.inl hs)).symm,HB.out⟩
theorem qL {env:ByteArray→Option Th} (w0 w:World) (k vk vn:Int) (vs:ByteArray) (va:Option Addr) (vl vc:Nat) (nm:ByteArray) (a:Option Addr) (l c:Nat) (Lv:List T) (A:List Tm) (m:Nat) (hw:Below w0.heap.size w0 w) (ht:bd w0 k vk vn vs va vl vc nm a l c Lv A) (hn:bI w0 m env):Calls Tryz.prog 86 #[Q #[G D k,G D vk,G D vn,C vs,H va vl vc,C nm,H a l c],.map (some m)] w fun e w'=>(e=M (G D (kZ env nm A)))∧Below w.heap.size w w':=by
 obtain⟨X,hX⟩:∃z,z=kZ env nm A:=⟨_,rfl⟩
 rw[←hX]
 have HX0:Hid (A = []→cW nm=true→(env nm).isSome=true→X=0):=fun h1 h2 h3=>by rw[hX];unfold kZ;rw[if_pos ⟨by rw[h1];rfl,h2⟩,if_pos h3]
 have HX1:Hid (A = []→cW nm=true→env nm=none→X=5):=fun h1 h2 h3=>by rw[hX];unfold kZ;rw[if_pos ⟨by rw[h1];rfl,h2⟩,if_neg (by rw[h3];simp)]
 have HX2:Hid (A ≠ []∨cW nm=false→X=6):=fun h=>by
  rw[hX]
  refine if_neg fun g=>?_
  rcases h with h | h
  ·exact h (List.length_eq_zero_iff.1 g.1)
  ·rw[h] at g;exact absurd g.2 (by simp)
 clear hX
 have HLEN:=aa ht.args.len.1
 have HNS:=aa ht.nms
 have HW:=aa hw
 have HN:=aa hn
 clear hw ht hn
 by_cases hl:l=0
 ·have HA:Hid (A = []):=List.length_eq_zero_iff.1 (by have:=HLEN.out;omega)
  subst hl
  have hb0:Below w.heap.size w (w.alloc (I #[G D k,G D vk,G D vn,C vs,H va vl vc,C nm,H a 0 c] 33)):=(J _ _).alloc (K _) _
  have h0:=ae w (I #[G D k,G D vk,G D vn,C vs,H va vl vc,C nm,H a 0 c] 33)
  have hz:(w.alloc (I #[G D k,G D vk,G D vn,C vs,H va vl vc,C nm,H a 0 c] 33)).heap.size=w.heap.size+1:=by simp
  have HB:=aa hb0
  have H0:=aa h0
  have HZ:=aa hz
  clear hb0 h0 hz
  go_enter Tryz.func86,Tryz.ntmps86
  go_wp2_with fail
  refine(i6 nm _ HNS.out).mono ?_
  generalize w.alloc (I #[G D k,G D vk,G D vn,C vs,H va vl vc,C nm,H a 0 c] 33)=W at HB H0 HZ ⊢
  rintro e u1 ⟨rfl,k1⟩
  have hbb:=af HB.out k1
  have HBB:=aa hbb
  have hw0:Below w0.heap.size w0 u1:=HW.out.trans (hbb.mono HW.out.size)
  have h0:=(k1.block w.heap.size (by rw[HZ.out];omega)).trans H0.out
  have c5:=ac h0 5
  simp at c5
  have hsz:w.heap.size<u1.heap.size:=lt_block' h0
  cases hb:cW nm with
  | false=>
    clear hbb hw0 h0 k1
    go_wp2_with fail
    go_ret
    exact⟨ag (HX2.out (.inr hb)).symm,HBB.out⟩
  | true=>
    cases hx:env nm with
    | none=>
      have hlk:=lN HN.out nm hx u1 hw0
      have HX:=aa hx
      clear hbb hw0 h0 k1 hx
      go_wp2_with fail
      go_ret
      exact⟨ag (HX1.out HA.out hb HX.out).symm,HBB.out.alloc HBB.out.size _⟩
    | some x=>
      obtain⟨P,pa,pl,pc,-,-,-,hlk⟩:=eA HN.out nm x hx
      have hl2:=(hlk u1 hw0).2
      have HX:=aa hx
      clear hbb hw0 h0 k1 hx hlk
      go_wp2_with fail
      go_ret
      exact⟨ag (HX0.out HA.out hb (by rw[HX.out];rfl)).symm,HBB.out.alloc HBB.out.size _⟩
 ·have HA:Hid (A ≠ []):=fun e=>by have hlen:=HLEN.out;rw[e] at hlen;exact hl hlen
  have hl':(0:Int)<l:=by omega
  have hb0:Below w.heap.size w (w.alloc (I #[G D k,G D vk,G D vn,C vs,H va vl vc,C nm,H a l c] 33)):=(J _ _).alloc (K _) _
  have HB:=aa hb0
  clear hb0
  go_enter Tryz.func86,Tryz.ntmps86
  go_wp2_with fail
  go_ret
  exact⟨ag (HX2.out (.inl HA.out)).symm,HB.out⟩
theorem ob {R:Tm→Int} (w0 w:World) (k vk vn:Int) (vs:ByteArray) (va:Option Addr) (vl vc:Nat) (nm:ByteArray) (a:Option Addr) (l c:Nat) (Lv:List T) (A:List Tm) (bm m:Nat) (tm:Int) (hw:Below w0.heap.size w0 w) (ht:bd w0 k vk vn vs va vl vc nm a l c Lv A) (htm:0≤tm∧tm≤6)
  (IH:∀(xk xvk xvn:Int) (xvs:ByteArray) (xva:Option Addr) (xvl xvc:Nat) (xnm:ByteArray) (xa:Option Addr) (xl xc:Nat) (Lv:List T) (A':List Tm),bd w0 xk xvk xvn xvs xva xvl xvc xnm xa xl xc Lv A'→.node xk (.node xvk xvn xvs Lv) xnm A' ∈ A→∀W,Below w0.heap.size w0 W→Calls Tryz.prog 56 #[.map (some bm),Q #[G D xk,G D xvk,G D xvn,C xvs,H xva xvl xvc,C xnm,H xa xl xc],.map (some m),G D (tm+1)] W fun e w'=>(e=M (G D (R (.node xk (.node xvk xvn xvs Lv) xnm A'))))∧Below W.heap.size W w'):Calls Tryz.prog 87 #[.map (some bm),Q #[G D k,G D vk,G D vn,C vs,H va vl vc,C nm,H a l c],.map (some m),G D tm] w fun e w'=>(e=M (G D (fy R nm A)))∧Below w.heap.size w w':=by
 obtain⟨X,hX⟩:∃z,z=fy R nm A:=⟨_,rfl⟩
 rw[←hX]
 have HX:=aa hX
 clear hX
 have HLEN:=aa ht.args.len.1
 have HNS:=aa ht.nms
 have HAR:=aa ht.args
 have hmx:=ht.args.len.2
 have HW:=aa hw
 have HIH:=aa IH
 have hwr:IntKind.i64.wrap (tm+1)=tm+1:=by rw[IntKind.wrap_i64];omega
 clear hw ht IH
 by_cases hl:l=1
 ·subst hl
  obtain⟨b,off,xk,xvk,xvn,xvs,xva,xvl,xvc,xnm,xa,xl,xc,Lv',A',ha,hbl,hd,⟨e0,e1,e2,e3,e4,e5,e6⟩,hta⟩:=HAR.out.at (i:=0) (by omega)
  rw[Nat.zero_mul,Nat.add_zero] at e0 e1 e2 e3 e4 e5 e6
  subst ha
  have HA:Hid (A = [.node xk (.node xvk xvn xvs Lv') xnm A']):=by
   have e:A = .node xk (.node xvk xvn xvs Lv') xnm A'::A.drop 1:=by simpa using hd
   have h1:A.drop 1 = []:=List.drop_eq_nil_of_le (by have:=HLEN.out;omega)
   rw[h1] at e
   exact e
  have HC:=aa (HIH.out xk xvk xvn xvs xva xvl xvc xnm xa xl xc Lv' A' hta (by rw[HA.out];exact O ..))
  have hb0:Below w.heap.size w (w.alloc (I #[G D k,G D vk,G D vn,C vs,H va vl vc,C nm,H (some ⟨b,off,none⟩) 1 c] 33)):=(J _ _).alloc (K _) _
  have hw1:=HW.out.trans (hb0.mono HW.out.size)
  have d0:(w.alloc (I #[G D k,G D vk,G D vn,C vs,H va vl vc,C nm,H (some ⟨b,off,none⟩) 1 c] 33)).cell? ⟨b,off,none⟩=some (G D xk):=(hw1.cell (p:=⟨b,off,none⟩) hbl).trans e0
  have d1:(w.alloc (I #[G D k,G D vk,G D vn,C vs,H va vl vc,C nm,H (some ⟨b,off,none⟩) 1 c] 33)).cell? ⟨b,off+1,none⟩=some (G D xvk):=(hw1.cell (p:=⟨b,off+1,none⟩) hbl).trans e1
  have d2:(w.alloc (I #[G D k,G D vk,G D vn,C vs,H va vl vc,C nm,H (some ⟨b,off,none⟩) 1 c] 33)).cell? ⟨b,off+2,none⟩=some (G D xvn):=(hw1.cell (p:=⟨b,off+2,none⟩) hbl).trans e2
  have d3:(w.alloc (I #[G D k,G D vk,G D vn,C vs,H va vl vc,C nm,H (some ⟨b,off,none⟩) 1 c] 33)).cell? ⟨b,off+3,none⟩=some (C xvs):=(hw1.cell (p:=⟨b,off+3,none⟩) hbl).trans e3
  have d4:(w.alloc (I #[G D k,G D vk,G D vn,C vs,H va vl vc,C nm,H (some ⟨b,off,none⟩) 1 c] 33)).cell? ⟨b,off+4,none⟩=some (H xva xvl xvc):=(hw1.cell (p:=⟨b,off+4,none⟩) hbl).trans e4
  have d5:(w.alloc (I #[G D k,G D vk,G D vn,C vs,H va vl vc,C nm,H (some ⟨b,off,none⟩) 1 c] 33)).cell? ⟨b,off+5,none⟩=some (C xnm):=(hw1.cell (p:=⟨b,off+5,none⟩) hbl).trans e5
  have d6:(w.alloc (I #[G D k,G D vk,G D vn,C vs,H va vl vc,C nm,H (some ⟨b,off,none⟩) 1 c] 33)).cell? ⟨b,off+6,none⟩=some (H xa xl xc):=(hw1.cell (p:=⟨b,off+6,none⟩) hbl).trans e6
  have hbW:b<(w.alloc (I #[G D k,G D vk,G D vn,C vs,H va vl vc,C nm,H (some ⟨b,off,none⟩) 1 c] 33)).heap.size:=N hbl hw1.size
  have HB:=aa hb0
  have h0:=ae w (I #[G D k,G D vk,G D vn,C vs,H va vl vc,C nm,H (some ⟨b,off,none⟩) 1 c] 33)
  have hz:(w.alloc (I #[G D k,G D vk,G D vn,C vs,H va vl vc,C nm,H (some ⟨b,off,none⟩) 1 c] 33)).heap.size=w.heap.size+1:=by simp
  have H0:=aa h0
  have HZ:=aa hz
  have HW1:=aa hw1
  have HE:=aa (show w0.cell? ⟨b,off,none⟩=some (G D xk)∧w0.cell? ⟨b,off+1,none⟩=some (G D xvk)∧w0.cell? ⟨b,off+2,none⟩=some (G D xvn)∧w0.cell? ⟨b,off+3,none⟩=some (C xvs)∧w0.cell? ⟨b,off+4,none⟩=some (H xva xvl xvc)∧w0.cell? ⟨b,off+5,none⟩=some (C xnm)∧w0.cell? ⟨b,off+6,none⟩=some (H xa xl xc) from⟨e0,e1,e2,e3,e4,e5,e6⟩)
  clear e0 e1 e2 e3 e4 e5 e6 hta hd h0 hz hw1 hb0 HAR HIH
  by_cases hk:xk=2
  ·subst hk
   go_enter Tryz.func87,Tryz.ntmps87
   go_wp2_with fail
   refine(dv nm _ HNS.out).mono ?_
   clear d0 d1 d2 d3 d4 d5 d6 hbW
   generalize w.alloc (I #[G D k,G D vk,G D vn,C vs,H va vl vc,C nm,H (some ⟨b,off,none⟩) 1 c] 33)=W at HB H0 HZ HW1 ⊢
   rintro e u1 ⟨rfl,k1⟩
   have hbb:=af HB.out k1
   have HBB:=aa hbb
   have hw0:Below w0.heap.size w0 u1:=HW.out.trans (hbb.mono HW.out.size)
   have h0:=(k1.block w.heap.size (by rw[HZ.out];omega)).trans H0.out
   have c6:=ac h0 6
   simp at c6
   have hsz:w.heap.size<u1.heap.size:=lt_block' h0
   obtain⟨e0,e1,e2,e3,e4,e5,e6⟩:=HE.out
   have d0:(u1).cell? ⟨b,off,none⟩=some (G D 2):=(hw0.cell (p:=⟨b,off,none⟩) hbl).trans e0
   have d1:(u1).cell? ⟨b,off+1,none⟩=some (G D xvk):=(hw0.cell (p:=⟨b,off+1,none⟩) hbl).trans e1
   have d2:(u1).cell? ⟨b,off+2,none⟩=some (G D xvn):=(hw0.cell (p:=⟨b,off+2,none⟩) hbl).trans e2
   have d3:(u1).cell? ⟨b,off+3,none⟩=some (C xvs):=(hw0.cell (p:=⟨b,off+3,none⟩) hbl).trans e3
   have d4:(u1).cell? ⟨b,off+4,none⟩=some (H xva xvl xvc):=(hw0.cell (p:=⟨b,off+4,none⟩) hbl).trans e4
   have d5:(u1).cell? ⟨b,off+5,none⟩=some (C xnm):=(hw0.cell (p:=⟨b,off+5,none⟩) hbl).trans e5
   have d6:(u1).cell? ⟨b,off+6,none⟩=some (H xa xl xc):=(hw0.cell (p:=⟨b,off+6,none⟩) hbl).trans e6
   have hbW:b<u1.heap.size:=N hbl hw0.size
   clear e0 e1 e2 e3 e4 e5 e6
   cases hb:Go.Proofs.YtijjpoohhgapoaaGreatDoor.nm nm with
   | false=>
     clear hbb hw0 h0 k1
     go_wp2_with fail
     go_ret
     exact⟨ag (show X=6 from by rw[HX.out,HA.out];exact if_neg fun g=>by rw[hb] at g;exact absurd g.2 (by simp)).symm,HBB.out⟩
   | true=>
     have HW2:=aa hw0
     clear hbb hw0 h0 k1
     go_wp2_with fail
     refine(HC.out _ HW2.out).mono ?_
     rintro e u2 ⟨rfl,k2⟩
     have HB2:=aa (af HBB.out k2)
     clear k2
     go_wp2_with fail
     go_ret
     exact⟨ag (show X=R (.node 2 (.node xvk xvn xvs Lv') xnm A') from by rw[HX.out,HA.out];exact if_pos ⟨rfl,hb⟩).symm,HB2.out⟩
  ·have hk':(xk != 2)=true:=by simp[hk]
   go_enter Tryz.func87,Tryz.ntmps87
   go_wp2_with fail
   go_ret
   exact⟨ag (show X=6 from by rw[HX.out,HA.out];exact if_neg fun g=>hk g.1).symm,HB.out⟩
 ·have HA:Hid (∀x,A ≠ [x]):=fun x e=>by have hlen:=HLEN.out;rw[e] at hlen;exact hl hlen
  have hl':((l:Int) != 1)=true:=by simp;omega
  have hb0:Below w.heap.size w (w.alloc (I #[G D k,G D vk,G D vn,C vs,H va vl vc,C nm,H a l c] 33)):=(J _ _).alloc (K _) _
  have HB:=aa hb0
  clear hb0
  go_enter Tryz.func87,Tryz.ntmps87
  go_wp2_with fail
  go_ret
  exact⟨ag (show X=6 from by
   rw[HX.out]
   unfold fy
   split
   ·exact absurd rfl (HA.out _)
   ·rfl).symm,HB.out⟩
theorem dV {env:ByteArray→Option Th} {R:Tm→Int} {A:List Tm} {o:Nat} (h1:an o = -1∨an o=A.length) (h2:A.length≤30) (h3:∀x ∈ A,R x=0):iJ env R A (some o)=gN env o A:=by
 show(if _ then (if _ then _ else _) else _)=_
 rw[if_pos h1,if_neg (by omega)]
 refine pA fun x hx=>?_
 obtain⟨t,ht,rfl⟩:=List.mem_map.1 hx
 exact h3 t ht
theorem l7 {env:ByteArray→Option Th} {R:Tm→Int} {A:List Tm} {o i:Nat} {t:Tm} {r:Int} (h1:an o = -1∨an o=A.length) (h2:A.length≤30) (h3:∀x ∈ A.take i,R x=0) (h4:A.take (i+1)=A.take i ++ [t]) (h5:i<A.length) (hr:r=R t) (h6:r≠0):iJ env R A (some o)=r:=by
 show(if _ then (if _ then _ else _) else _)=_
 rw[if_pos h1,if_neg (by omega)]
 have e:A=A.take i++t::A.drop (i+1):=by
  have:=(List.take_append_drop (i+1) A).symm
  rw[h4,List.append_assoc] at this
  exact this
 rw[e,List.map_append,List.map_cons,n8 _ _ (fun x hx=>by
  obtain⟨t,ht,rfl⟩:=List.mem_map.1 hx
  exact h3 t ht),←hr,if_neg h6]
theorem nY {env:ByteArray→Option Th} {x:Tm} {r:List Tm} (h:x.kind=2):gN env 15 (x::r)=0:=by
 show(if (15:Nat)=15∧x.kind≠2∨(15:Nat)=16∧ck env x.kind x.name=false then (3:Int) else 0)=0
 exact if_neg (by rintro(⟨_,g⟩ | ⟨g,_⟩)<;>first | (exact g h) | (exact absurd g (by decide)))
theorem lQ {env:ByteArray→Option Th} {x:Tm} {r:List Tm} (h:¬x.kind=2):gN env 15 (x::r)=3:=by
 show(if (15:Nat)=15∧x.kind≠2∨(15:Nat)=16∧ck env x.kind x.name=false then (3:Int) else 0)=3
 exact if_pos (.inl ⟨rfl,h⟩)
theorem nX {env:ByteArray→Option Th} {x:Tm} {r:List Tm} (h:ck env x.kind x.name=true):gN env 16 (x::r)=0:=by
 show(if (16:Nat)=15∧x.kind≠2∨(16:Nat)=16∧ck env x.kind x.name=false then (3:Int) else 0)=0
 exact if_neg (by rintro(⟨g,_⟩ | ⟨_,g⟩)<;>first | (exact absurd g (by decide)) | (exact absurd (h.symm.trans g) (by decide)))
theorem i8 {env:ByteArray→Option Th} {x:Tm} {r:List Tm} (h:ck env x.kind x.name=false):gN env 16 (x::r)=3:=by
 show(if (16:Nat)=15∧x.kind≠2∨(16:Nat)=16∧ck env x.kind x.name=false then (3:Int) else 0)=3
 exact if_pos (.inr ⟨rfl,h⟩)
theorem kl {env:ByteArray→Option Th} {o:Nat} (h1:o≠15) (h2:o≠16):∀A,gN env o A=0
 | []=>rfl
 | x::_=>if_neg (by rintro(⟨h,_⟩ | ⟨h,_⟩)<;>contradiction)
theorem pH {env:ByteArray→Option Th} {R:Tm→Int} (w0 w:World) (k vk vn:Int) (vs:ByteArray) (va:Option Addr) (vl vc:Nat) (nm:ByteArray) (a:Option Addr) (l c:Nat) (Lv:List T) (A:List Tm) (bm m bk:Nat) (tm:Int) (hw:Below w0.heap.size w0 w) (ht:bd w0 k vk vn vs va vl vc nm a l c Lv A) (hn:bI w0 m env) (hbo:dr w0 bm bk) (htm:0≤tm∧tm≤6)
  (IH:∀(xk xvk xvn:Int) (xvs:ByteArray) (xva:Option Addr) (xvl xvc:Nat) (xnm:ByteArray) (xa:Option Addr) (xl xc:Nat) (Lv:List T) (A':List Tm),bd w0 xk xvk xvn xvs xva xvl xvc xnm xa xl xc Lv A'→.node xk (.node xvk xvn xvs Lv) xnm A' ∈ A→∀W,Below w0.heap.size w0 W→Calls Tryz.prog 56 #[.map (some bm),Q #[G D xk,G D xvk,G D xvn,C xvs,H xva xvl xvc,C xnm,H xa xl xc],.map (some m),G D (tm+1)] W fun e w'=>(e=M (G D (R (.node xk (.node xvk xvn xvs Lv) xnm A'))))∧Below W.heap.size W w'):Calls Tryz.prog 88 #[.map (some bm),Q #[G D k,G D vk,G D vn,C vs,H va vl vc,C nm,H a l c],.map (some m),G D tm] w fun e w'=>(e=M (G D (iJ env R A (bN nm))))∧Below w.heap.size w w':=by
 obtain⟨X,hX⟩:∃z,z=iJ env R A (bN nm):=⟨_,rfl⟩
 rw[←hX]
 have HXE:=aa hX
 clear hX
 have HLEN:=aa ht.args.len.1
 have HNS:=aa ht.nms
 have HAR:=aa ht.args
 have hmx:=ht.args.len.2
 have HW:=aa hw
 have HIH:=aa IH
 have HN:=aa hn
 have hwr:IntKind.i64.wrap (tm+1)=tm+1:=by rw[IntKind.wrap_i64];omega
 have hb0:Below w.heap.size w (w.alloc (I #[G D k,G D vk,G D vn,C vs,H va vl vc,C nm,H a l c] 33)):=(J _ _).alloc (K _) _
 have hlk:=ka (hbo.below (hw.trans (hb0.mono hw.size))) nm
 clear hw ht IH hn hbo hb0
 cases ho:bN nm with
 | none=>
   rw[ho] at hlk
   have hlk:(Instr.lookup 54 (.map (some bm)) (C nm) true).run Tryz.prog (w.alloc (I #[G D k,G D vk,G D vn,C vs,H va vl vc,C nm,H a l c] 33)) = .ok (S #[Q #[G D 0,.nilFunc],.bool false]) (w.alloc (I #[G D k,G D vk,G D vn,C vs,H va vl vc,C nm,H a l c] 33)):=hlk
   have HO:=aa ho
   have HB:Hid (Below w.heap.size w ((w.alloc (I #[G D k,G D vk,G D vn,C vs,H va vl vc,C nm,H a l c] 33)).alloc (I #[G D 0,.nilFunc] 84))):=((J _ _).alloc (K _) _).alloc (by simp) _
   clear ho
   go_enter Tryz.func88,Tryz.ntmps88
   go_wp2_with fail
   go_ret
   exact⟨ag (show X=6 from by rw[HXE.out,HO.out];rfl).symm,HB.out⟩
 | some o=>
   rw[ho] at hlk
   obtain⟨tk,htk⟩:∃z,z=an o:=⟨_,rfl⟩
   obtain⟨fv,hfv⟩:∃z,z=jE bk o:=⟨_,rfl⟩
   have hlk2:(Instr.lookup 54 (.map (some bm)) (C nm) true).run Tryz.prog (w.alloc (I #[G D k,G D vk,G D vn,C vs,H va vl vc,C nm,H a l c] 33)) = .ok (S #[Q #[G D tk,fv],.bool true]) (w.alloc (I #[G D k,G D vk,G D vn,C vs,H va vl vc,C nm,H a l c] 33)):=by rw[htk,hfv];exact hlk
   have hst:=ly (P:=Tryz.prog) (ay w (I #[G D k,G D vk,G D vn,C vs,H va vl vc,C nm,H a l c] 33) (I #[G D tk,.nilFunc] 84)) 1 (by simp) fv (by rw[hfv];exact nP bk o)
   clear hlk
   have HTK:=aa htk
   have HO:=aa ho
   have hb2:Below w.heap.size w ((w.alloc (I #[G D k,G D vk,G D vn,C vs,H va vl vc,C nm,H a l c] 33)).alloc (I #[G D tk,fv] 84)):=((J _ _).alloc (K _) _).alloc (by simp) _
   have HB:=aa hb2
   clear ho htk hfv hb2
   by_cases h1:tk = -1∨tk=l
   ·have HT:Hid (an o = -1∨an o=A.length):=by
     have:=HTK.out
     have:=HLEN.out
     show _∨_
     omega
    have key:(tk != -1)=false∨((tk != -1)=true∧(tk != (l:Int))=false):=by
     by_cases h2:tk = -1
     ·exact .inl (by simp[h2])
     ·exact .inr ⟨by simp[h2],by simp;omega⟩
    have H1:=aa h1
    clear h1
    by_cases h30:l≤30
    ·have hl30:¬(30:Int)<l:=by omega
     have h1:((w.alloc (I #[G D k,G D vk,G D vn,C vs,H va vl vc,C nm,H a l c] 33)).alloc (I #[G D tk,fv] 84)).heap[w.heap.size]? = some (I #[G D k,G D vk,G D vn,C vs,H va vl vc,C nm,H a l c] 33 (0,0)):=by
      have hb:Below (w.heap.size+1) (w.alloc (I #[G D k,G D vk,G D vn,C vs,H va vl vc,C nm,H a l c] 33)) ((w.alloc (I #[G D k,G D vk,G D vn,C vs,H va vl vc,C nm,H a l c] 33)).alloc (I #[G D tk,fv] 84)):=(J _ _).alloc (by simp) _
      exact(hb.block w.heap.size (by omega)).trans (ae w (I #[G D k,G D vk,G D vn,C vs,H va vl vc,C nm,H a l c] 33))
     have hz:((w.alloc (I #[G D k,G D vk,G D vn,C vs,H va vl vc,C nm,H a l c] 33)).alloc (I #[G D tk,fv] 84)).heap.size=w.heap.size+2:=by simp
     have HZ:=aa hz
     have HX:=aa h1
     clear h1 hz
     rcases key with hn1 | ⟨hn1,hn2⟩
     all_goals
      go_enter Tryz.func88,Tryz.ntmps88
      go_wp2_with fail
      clear hlk2 hst
      generalize (w.alloc (I #[G D k,G D vk,G D vn,C vs,H va vl vc,C nm,H a l c] 33)).alloc (I #[G D tk,fv] 84)=W at HB HX HZ ⊢
      go_loopg [43] l (fun q s43 wr=>∃(i:Nat),i≤l∧l-i≤q∧s43=G D i∧Below (w.heap.size+2) W wr∧∀x ∈ A.take i,R x=0)
      case atStart=>exact⟨0,Nat.zero_le _,by omega,rfl,J _ _,fun x hx=>by simp at hx⟩
      case round=>
       obtain⟨i,hi,hg,rfl,hbw,hall⟩:=hrel
       have HALL:=aa hall
       have hzw:w.heap.size+2≤wr.heap.size:=by have:=hbw.size;rw[HZ.out] at this;exact this
       have hw0:Below w.heap.size w wr:=HB.out.trans (hbw.mono (by omega))
       have hw00:Below w0.heap.size w0 wr:=HW.out.trans (hw0.mono HW.out.size)
       clear hall
       by_cases hlt:i<l
       ·obtain⟨b,off,xk,xvk,xvn,xvs,xva,xvl,xvc,xnm,xa,xl,xc,Lv',A',ha,hbl,hd,⟨e0,e1,e2,e3,e4,e5,e6⟩,hta⟩:=HAR.out.at (i:=i) hlt
        have HC:=aa (HIH.out xk xvk xvn xvs xva xvl xvc xnm xa xl xc Lv' A' hta (List.mem_of_mem_drop (i:=i) (by rw[hd];exact O ..)))
        have HMM:Hid (.node xk (.node xvk xvn xvs Lv') xnm A' ∈ A):=List.mem_of_mem_drop (i:=i) (by rw[hd];exact O ..)
        have HTK2:Hid (A.take (i+1)=A.take i ++ [.node xk (.node xvk xvn xvs Lv') xnm A']):=by
         have e:A[i]? = some (.node xk (.node xvk xvn xvs Lv') xnm A'):=by
          have:=List.getElem?_drop (xs:=A) (i:=i) (j:=0)
          rw[hd] at this
          simpa using this.symm
         show A.take (i+1)=_
         rw[List.take_add_one,e]
         rfl
        subst ha
        have q2:∀o,wr.cell? ⟨b,o,none⟩=w0.cell? ⟨b,o,none⟩:=fun o=>hw00.cell (p:=⟨b,o,none⟩) hbl
        have d0:=(q2 _).trans e0
        have d1:=(q2 _).trans e1
        have d2:=(q2 _).trans e2
        have d3:=(q2 _).trans e3
        have d4:=(q2 _).trans e4
        have d5:=(q2 _).trans e5
        have d6:=(q2 _).trans e6
        have hil:(i:Int)<l:=by omega
        have hbW:b<wr.heap.size:=N hbl hw00.size
        have HBX:=aa (show Below (w.heap.size+2) W (wr.alloc (I #[G D xk,G D xvk,G D xvn,C xvs,H xva xvl xvc,C xnm,H xa xl xc] 33)) from hbw.alloc (by omega) _)
        have HW0X:=aa (show Below w0.heap.size w0 (wr.alloc (I #[G D xk,G D xvk,G D xvn,C xvs,H xva xvl xvc,C xnm,H xa xl xc] 33)) from hw00.alloc hw00.size _)
        have HBW:=aa (show Below w.heap.size w (wr.alloc (I #[G D xk,G D xvk,G D xvn,C xvs,H xva xvl xvc,C xnm,H xa xl xc] 33)) from hw0.alloc hw0.size _)
        clear e0 e1 e2 e3 e4 e5 e6 q2 hd hta hbw hw0 hw00
        go_wp2_with fail
        refine(HC.out _ HW0X.out).mono ?_
        clear d0 d1 d2 d3 d4 d5 d6
        rintro e u1 ⟨rfl,k1⟩
        obtain⟨r,hr⟩:∃z,z=R (.node xk (.node xvk xvn xvs Lv') xnm A'):=⟨_,rfl⟩
        rw[←hr]
        have HB1:=aa (HBX.out.trans (k1.mono (by simp;omega)))
        have HB2:=aa (af HBW.out k1)
        have HR:=aa hr
        clear hr k1
        by_cases hr0:r=0
        ·subst hr0
         go_wp2_with fail
         go_roundg (l-(i+1))
         case measure=>omega
         case rel=>exact⟨i+1,by omega,by omega,by go_num,HB1.out,fun x hx=>by
          rw[HTK2.out] at hx
          rcases List.mem_append.1 hx with h | h
          ·exact HALL.out x h
          ·rw[List.mem_singleton.1 h]
           exact HR.out.symm⟩
        ·have hr':(r != 0)=true:=by simp[hr0]
         go_wp2_with fail
         go_ret
         exact⟨ag (show X=r from by rw[HXE.out,HO.out];exact l7 HT.out (by rw[←HLEN.out];exact h30) HALL.out HTK2.out (by rw[←HLEN.out];exact hlt) HR.out hr0).symm,HB2.out⟩
       ·have hil:¬(i:Int)<l:=by omega
        have HALL2:Hid (∀x ∈ A,R x=0):=fun x hx=>HALL.out x (by rw[List.take_of_length_le (by have:=HLEN.out;omega)];exact hx)
        have h0:=(hbw.block w.heap.size (by omega)).trans HX.out
        have c5:=ac h0 5
        have c6:=ac h0 6
        simp at c5 c6
        have hsz:w.heap.size<wr.heap.size:=by omega
        have HBW:=aa hw0
        have HW0:=aa hw00
        clear h0 hbw hw0 hw00
        rcases mt HO.out with⟨rfl,hm1,hm2⟩ | ⟨rfl,hm1,hm2⟩ | ⟨ho1,ho2,hm1,hm2⟩
        ·have hl1:l=1:=by have h:=H1.out;rw[HTK.out,show an 15=1 from by decide] at h;omega
         obtain⟨b,off,xk,xvk,xvn,xvs,xva,xvl,xvc,xnm,xa,xl,xc,Lv',A',ha,hbl,hd,⟨e0,e1,e2,e3,e4,e5,e6⟩,hta⟩:=HAR.out.at (i:=0) (by omega)
         rw[Nat.zero_mul,Nat.add_zero] at e0 e1 e2 e3 e4 e5 e6
         subst ha
         have HA:Hid (A = .node xk (.node xvk xvn xvs Lv') xnm A'::A.drop 1):=by show _=_;simpa using hd
         have d0:(wr).cell? ⟨b,off,none⟩=some (G D xk):=(HW0.out.cell (p:=⟨b,off,none⟩) hbl).trans e0
         have d1:(wr).cell? ⟨b,off+1,none⟩=some (G D xvk):=(HW0.out.cell (p:=⟨b,off+1,none⟩) hbl).trans e1
         have d2:(wr).cell? ⟨b,off+2,none⟩=some (G D xvn):=(HW0.out.cell (p:=⟨b,off+2,none⟩) hbl).trans e2
         have d3:(wr).cell? ⟨b,off+3,none⟩=some (C xvs):=(HW0.out.cell (p:=⟨b,off+3,none⟩) hbl).trans e3
         have d4:(wr).cell? ⟨b,off+4,none⟩=some (H xva xvl xvc):=(HW0.out.cell (p:=⟨b,off+4,none⟩) hbl).trans e4
         have d5:(wr).cell? ⟨b,off+5,none⟩=some (C xnm):=(HW0.out.cell (p:=⟨b,off+5,none⟩) hbl).trans e5
         have d6:(wr).cell? ⟨b,off+6,none⟩=some (H xa xl xc):=(HW0.out.cell (p:=⟨b,off+6,none⟩) hbl).trans e6
         have hbW:b<wr.heap.size:=N hbl HW0.out.size
         clear e0 e1 e2 e3 e4 e5 e6 hd hta
         by_cases hk:xk=2
         ·subst hk
          go_wp2_with fail
          go_ret
          exact⟨ag (show X=0 from by rw[HXE.out,HO.out,dV HT.out (by rw[←HLEN.out];exact h30) HALL2.out,HA.out];exact nY rfl).symm,HBW.out⟩
         ·have hk':(xk != 2)=true:=by simp[hk]
          go_wp2_with fail
          go_ret
          exact⟨ag (show X=3 from by rw[HXE.out,HO.out,dV HT.out (by rw[←HLEN.out];exact h30) HALL2.out,HA.out];exact lQ hk).symm,HBW.out⟩
        ·have hl1:l=1:=by have h:=H1.out;rw[HTK.out,show an 16=1 from by decide] at h;omega
         obtain⟨b,off,xk,xvk,xvn,xvs,xva,xvl,xvc,xnm,xa,xl,xc,Lv',A',ha,hbl,hd,⟨e0,e1,e2,e3,e4,e5,e6⟩,hta⟩:=HAR.out.at (i:=0) (by omega)
         rw[Nat.zero_mul,Nat.add_zero] at e0 e1 e2 e3 e4 e5 e6
         subst ha
         have HA:Hid (A = .node xk (.node xvk xvn xvs Lv') xnm A'::A.drop 1):=by show _=_;simpa using hd
         have d0:(wr).cell? ⟨b,off,none⟩=some (G D xk):=(HW0.out.cell (p:=⟨b,off,none⟩) hbl).trans e0
         have d1:(wr).cell? ⟨b,off+1,none⟩=some (G D xvk):=(HW0.out.cell (p:=⟨b,off+1,none⟩) hbl).trans e1
         have d2:(wr).cell? ⟨b,off+2,none⟩=some (G D xvn):=(HW0.out.cell (p:=⟨b,off+2,none⟩) hbl).trans e2
         have d3:(wr).cell? ⟨b,off+3,none⟩=some (C xvs):=(HW0.out.cell (p:=⟨b,off+3,none⟩) hbl).trans e3
         have d4:(wr).cell? ⟨b,off+4,none⟩=some (H xva xvl xvc):=(HW0.out.cell (p:=⟨b,off+4,none⟩) hbl).trans e4
         have d5:(wr).cell? ⟨b,off+5,none⟩=some (C xnm):=(HW0.out.cell (p:=⟨b,off+5,none⟩) hbl).trans e5
         have d6:(wr).cell? ⟨b,off+6,none⟩=some (H xa xl xc):=(HW0.out.cell (p:=⟨b,off+6,none⟩) hbl).trans e6
         have hbW:b<wr.heap.size:=N hbl HW0.out.size
         clear e0 e1 e2 e3 e4 e5 e6 hd hta
         obtain⟨be,hbe⟩:∃z,z=ck env xk xnm:=⟨_,rfl⟩
         have HE:Hid (Calls Tryz.prog 118 #[Q #[G D xk,G D xvk,G D xvn,C xvs,H xva xvl xvc,C xnm,H xa xl xc],.map (some m)] wr fun e w'=>e=M (.bool be)∧Below wr.heap.size wr w'):=by
          rw[hbe]
          exact oj w0 wr xk xvk xvn xvs xva xvl xvc xnm xa xl xc m HW0.out HN.out
         have HBE:=aa hbe
         clear hbe
         go_wp2_with fail
         refine HE.out.mono ?_
         rintro e u1 ⟨rfl,k1⟩
         have HB2:=aa (af HBW.out k1)
         clear k1 d0 d1 d2 d3 d4 d5 d6 c5 c6
         cases be with
         | true=>
           go_wp2_with fail
           go_ret
           exact⟨ag (show X=0 from by rw[HXE.out,HO.out,dV HT.out (by rw[←HLEN.out];exact h30) HALL2.out,HA.out];exact nX HBE.out.symm).symm,HB2.out⟩
         | false=>
           go_wp2_with fail
           go_ret
           exact⟨ag (show X=3 from by rw[HXE.out,HO.out,dV HT.out (by rw[←HLEN.out];exact h30) HALL2.out,HA.out];exact i8 HBE.out.symm).symm,HB2.out⟩
        ·go_wp2_with fail
         go_ret
         exact⟨ag (show X=0 from by rw[HXE.out,HO.out,dV HT.out (by rw[←HLEN.out];exact h30) HALL2.out];exact kl ho1 ho2 A).symm,HBW.out⟩
    ·have hl30:(30:Int)<l:=by omega
     rcases key with hn1 | ⟨hn1,hn2⟩
     all_goals
      go_enter Tryz.func88,Tryz.ntmps88
      go_wp2_with fail
      go_ret
      exact⟨ag (show X=2 from by rw[HXE.out,HO.out];show(if _ then (if _ then _ else _) else _)=_;rw[if_pos HT.out,if_pos (by rw[←HLEN.out];omega)]).symm,HB.out⟩
   ·have hn1:(tk != -1)=true:=by simp;omega
    have hn2:(tk != (l:Int))=true:=by simp;omega
    have H1:=aa h1
    clear h1
    go_enter Tryz.func88,Tryz.ntmps88
    go_wp2_with fail
    go_ret
    exact⟨ag (show X=6 from by rw[HXE.out,HO.out];exact if_neg (by rw[←HTK.out,←HLEN.out];exact H1.out)).symm,HB.out⟩
end Go.Proofs.YtijjpoohhgapoaaGreatDoor

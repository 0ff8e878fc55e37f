import Derived.Test.YtijjpoohhgapoaaGreatDoorVQAV
namespace Go.Proofs.YtijjpoohhgapoaaGreatDoor
open Go.RowKit
set_option linter.unusedVariables false
set_option maxHeartbeats 4000000
set_option maxRecDepth 100000
open Value renaming string → C, slice → D, int → F, agg → K, tuple → L
open IntKind renaming i64 → E
open Obj renaming cells → G
open Nat renaming le_refl → H
open RowKit.Below renaming refl → I
open Ending renaming returned → J
mutual
def InM:Tm→Prop
 | .node _ v _ A=>InT v∧gr A
def gr:List Tm→Prop
 | []=>True
 | t::ts=>InM t∧gr ts
end
theorem gr.mem:∀{A:List Tm} {t:Tm},gr A→t ∈ A→InM t
 | [],t,_,h=>by cases h
 | x::A,t,hA,h=>by
   unfold gr at hA
   rcases List.mem_cons.1 h with rfl | h
   ·exact hA.1
   ·exact hA.2.mem h
theorem i5 {s:ByteArray}:s.toList = [] ↔ s=⟨#[]⟩:=⟨fun h=>oB h,fun h=>by rw[h,ByteArray.toList_eq]⟩
theorem hM (k n:Int) (s:ByteArray) (a:Option Addr) (l c:Nat) (w:World):Calls Tryz.prog 84 #[vC k n s a l c] w fun e w'=>(∃b,e=J (.bool b)∧(b=true ↔ k=0∧n=0∧s=⟨#[]⟩∧l=0))∧Below w.heap.size w w':=by
 by_cases hk:k=0
 ·subst hk
  by_cases hn:n=0
  ·subst hn
   by_cases hs:s=⟨#[]⟩
   ·subst hs
    have hs':=dg
    by_cases hl:l=0
    ·subst hl
     have hb0:Below w.heap.size w (w.alloc (G #[F E 0,F E 0,C ⟨#[]⟩,D a 0 c] 30)):=(I _ _).alloc (H _) _
     have HB:=aa hb0
     clear hb0
     go_enter Tryz.func84,Tryz.ntmps84
     go_wp2_with fail
     go_ret
     exact⟨⟨true,rfl,by simp⟩,HB.out⟩
    ·have hl':((l:Int)==0)=false:=by simp;omega
     have hb0:Below w.heap.size w (w.alloc (G #[F E 0,F E 0,C ⟨#[]⟩,D a l c] 30)):=(I _ _).alloc (H _) _
     have HB:=aa hb0
     clear hb0
     go_enter Tryz.func84,Tryz.ntmps84
     go_wp2_with fail
     go_ret
     exact⟨⟨false,rfl,by simp[hl]⟩,HB.out⟩
   ·have hs':=bp hs
    have hb0:Below w.heap.size w (w.alloc (G #[F E 0,F E 0,C s,D a l c] 30)):=(I _ _).alloc (H _) _
    have HB:=aa hb0
    clear hb0
    go_enter Tryz.func84,Tryz.ntmps84
    go_wp2_with fail
    go_ret
    exact⟨⟨false,rfl,by simp[hs]⟩,HB.out⟩
  ·have hn':(n==0)=false:=by simp[hn]
   have hb0:Below w.heap.size w (w.alloc (G #[F E 0,F E n,C s,D a l c] 30)):=(I _ _).alloc (H _) _
   have HB:=aa hb0
   clear hb0
   go_enter Tryz.func84,Tryz.ntmps84
   go_wp2_with fail
   go_ret
   exact⟨⟨false,rfl,by simp[hn]⟩,HB.out⟩
 ·have hk':(k==0)=false:=by simp[hk]
  have hb0:Below w.heap.size w (w.alloc (G #[F E k,F E n,C s,D a l c] 30)):=(I _ _).alloc (H _) _
  have HB:=aa hb0
  clear hb0
  go_enter Tryz.func84,Tryz.ntmps84
  go_wp2_with fail
  go_ret
  exact⟨⟨false,rfl,by simp[hk]⟩,HB.out⟩
theorem um {B:Nat} (w0 w:World) (k vk vn:Int) (vs:ByteArray) (va:Option Addr) (vl vc:Nat) (nm:ByteArray) (a:Option Addr) (l c:Nat) (Lv:List T) (A:List Tm) (hw:Below w0.heap.size w0 w) (hB:B≤w0.heap.size) (hT:bD B w0) (ht:bd w0 k vk vn vs va vl vc nm a l c Lv A) (hI:InT (.node vk vn vs Lv)):Calls Tryz.prog 85 #[K #[F E k,F E vk,F E vn,C vs,D va vl vc,C nm,D a l c]] w fun e w'=>(∃r,e=J (F E r)∧(r=0 ↔ nm.toList = []∧A = []∧vk≠4∧Ck 6 (.node vk vn vs Lv)))∧Below w.heap.size w w':=by
 have HLEN:=aa ht.args.len.1
 obtain⟨r,hr,hc⟩:=jt B w0 hB hT vk vn vs va vl vc Lv ht.vss hI ht.val
 have HC:=aa hc
 have HW:=aa hw
 have HR:=aa hr
 clear hc hw ht hT hI hr
 by_cases hs:nm=⟨#[]⟩
 ·have hs':=dg
  by_cases hl:l=0
  ·have HA:Hid (A = []):=List.length_eq_zero_iff.1 (by have:=HLEN.out;omega)
   by_cases hv:vk=4
   ·subst hl hs hv
    have hb0:Below w.heap.size w (w.alloc (G #[F E k,F E 4,F E vn,C vs,D va vl vc,C ⟨#[]⟩,D a 0 c] 33)):=(I _ _).alloc (H _) _
    have HB:=aa hb0
    clear hb0
    go_enter Tryz.func85,Tryz.ntmps85
    go_wp2_with fail
    go_ret
    exact⟨⟨_,rfl,by simp⟩,HB.out⟩
   ·have hv':(vk==4)=false:=by simp[hv]
    subst hl hs
    have hb0:Below w.heap.size w (w.alloc (G #[F E k,F E vk,F E vn,C vs,D va vl vc,C ⟨#[]⟩,D a 0 c] 33)):=(I _ _).alloc (H _) _
    have HB:=aa hb0
    have HBW:=aa (HW.out.trans (hb0.mono HW.out.size))
    clear hb0
    go_enter Tryz.func85,Tryz.ntmps85
    go_wp2_with (go_at_call 83;refine(HC.out _ HBW.out).mono ?_)
    rintro e u1 ⟨rfl,k1⟩
    have hbb:=af HB.out k1
    go_wp2_with fail
    go_ret
    exact⟨⟨_,rfl,by rw[HR.out];simp[HA.out,hv,i5.2 rfl]⟩,hbb⟩
  ·have HA:Hid (A ≠ []):=fun e=>by have hlen:=HLEN.out;rw[e] at hlen;exact hl hlen
   have hl':(0:Int)<l:=by omega
   subst hs
   have hb0:Below w.heap.size w (w.alloc (G #[F E k,F E vk,F E vn,C vs,D va vl vc,C ⟨#[]⟩,D a l c] 33)):=(I _ _).alloc (H _) _
   have HB:=aa hb0
   clear hb0
   go_enter Tryz.func85,Tryz.ntmps85
   go_wp2_with fail
   go_ret
   exact⟨⟨_,rfl,by simp[HA.out]⟩,HB.out⟩
 ·have hs':=bp hs
  have hb0:Below w.heap.size w (w.alloc (G #[F E k,F E vk,F E vn,C vs,D va vl vc,C nm,D a l c] 33)):=(I _ _).alloc (H _) _
  have HB:=aa hb0
  clear hb0
  go_enter Tryz.func85,Tryz.ntmps85
  go_wp2_with fail
  go_ret
  exact⟨⟨_,rfl,by simp[i5,hs]⟩,HB.out⟩
theorem lN {w0:World} {m:Nat} {env:ByteArray→Option Th} (hn:bI w0 m env) (s:ByteArray) (hx:env s=none) (w:World) (k:Below w0.heap.size w0 w):(Instr.lookup 50 (.map (some m)) (C s) true).run Tryz.prog w = .ok (L #[K #[.bool false,F E 0,C ⟨#[]⟩,D none 0 0],.bool false]) w:=by
 obtain⟨es,clk,h1,h2,h3⟩:=hn
 have h4:=h3 s
 rw[hx] at h4
 have hm:w.heap[m]? = some (.map es clk):=(k.block m (Array.getElem?_eq_some_iff.1 h1).1).trans h1
 have r2:=bn (P:=Tryz.prog) (w:=w) Tryz.underlying50 Tryz.underlying9 hm h2 s (eC w) true
 have h4:bH s es.toList=none:=h4
 rw[h4] at r2
 exact r2
theorem vF {env:ByteArray→Option Th} (w0 w:World) (k vk vn:Int) (vs:ByteArray) (va:Option Addr) (vl vc:Nat) (nm:ByteArray) (a:Option Addr) (l c:Nat) (Lv:List T) (A:List Tm) (m:Nat) (hw:Below w0.heap.size w0 w) (ht:bd w0 k vk vn vs va vl vc nm a l c Lv A) (hn:bI w0 m env):Calls Tryz.prog 86 #[K #[F E k,F E vk,F E vn,C vs,D va vl vc,C nm,D a l c],.map (some m)] w fun e w'=>(∃r,e=J (F E r)∧(r=0 ↔ A = []∧cW nm=true∧(env nm).isSome=true))∧Below w.heap.size w w':=by
 have HLEN:=aa ht.args.len.1
 have HNS:=aa ht.nms
 have HW:=aa hw
 have HN:=aa hn
 clear hw ht hn
 by_cases hl:l=0
 ·have HA:Hid (A = []):=List.length_eq_zero_iff.1 (by have:=HLEN.out;omega)
  subst hl
  have hb0:Below w.heap.size w (w.alloc (G #[F E k,F E vk,F E vn,C vs,D va vl vc,C nm,D a 0 c] 33)):=(I _ _).alloc (H _) _
  have h0:=ae w (G #[F E k,F E vk,F E vn,C vs,D va vl vc,C nm,D a 0 c] 33)
  have hz:(w.alloc (G #[F E k,F E vk,F E vn,C vs,D va vl vc,C nm,D a 0 c] 33)).heap.size=w.heap.size+1:=by simp
  have HB:=aa hb0
  have H0:=aa h0
  have HZ:=aa hz
  clear hb0 h0 hz
  go_enter Tryz.func86,Tryz.ntmps86
  go_wp2_with (go_at_call 28;refine(i6 nm _ HNS.out).mono ?_)
  generalize w.alloc (G #[F E k,F E vk,F E vn,C vs,D va vl vc,C nm,D a 0 c] 33)=W at HB H0 HZ ⊢
  rintro e u1 ⟨rfl,k1⟩
  have hbb:=af HB.out k1
  have HBB:=aa hbb
  have hw0:Below w0.heap.size w0 u1:=HW.out.trans (hbb.mono HW.out.size)
  have h0:=(k1.block w.heap.size (by rw[HZ.out];omega)).trans H0.out
  have c5:=ac h0 5
  simp at c5
  have hsz:w.heap.size<u1.heap.size:=lt_block' h0
  cases hb:cW nm with
  | false=>
    clear hbb hw0 h0 k1
    go_wp2_with fail
    go_ret
    exact⟨⟨_,rfl,by simp[hb]⟩,HBB.out⟩
  | true=>
    cases hx:env nm with
    | none=>
      have hlk:=lN HN.out nm hx u1 hw0
      have HX:=aa hx
      clear hbb hw0 h0 k1 hx
      go_wp2_with fail
      go_ret
      exact⟨⟨_,rfl,by simp[HX.out]⟩,HBB.out.alloc HBB.out.size _⟩
    | some x=>
      obtain⟨P,pa,pl,pc,-,-,-,hlk⟩:=eA HN.out nm x hx
      have hl2:=(hlk u1 hw0).2
      have HX:=aa hx
      clear hbb hw0 h0 k1 hx hlk
      go_wp2_with fail
      go_ret
      exact⟨⟨_,rfl,by simp[HX.out,HA.out,hb]⟩,HBB.out.alloc HBB.out.size _⟩
 ·have HA:Hid (A ≠ []):=fun e=>by have hlen:=HLEN.out;rw[e] at hlen;exact hl hlen
  have hl':(0:Int)<l:=by omega
  have hb0:Below w.heap.size w (w.alloc (G #[F E k,F E vk,F E vn,C vs,D va vl vc,C nm,D a l c] 33)):=(I _ _).alloc (H _) _
  have HB:=aa hb0
  clear hb0
  go_enter Tryz.func86,Tryz.ntmps86
  go_wp2_with fail
  go_ret
  exact⟨⟨_,rfl,by simp[HA.out]⟩,HB.out⟩
theorem ph {w0:World} {m:Nat} {env:ByteArray→Option Th} (hn:bI w0 m env) (s:ByteArray) (hx:env s=none) (w:World) (k:Below w0.heap.size w0 w):(Instr.lookup 50 (.map (some m)) (C s) false).run Tryz.prog w = .ok (K #[.bool false,F E 0,C ⟨#[]⟩,D none 0 0]) w:=by
 obtain⟨es,clk,h1,h2,h3⟩:=hn
 have h4:=h3 s
 rw[hx] at h4
 have hm:w.heap[m]? = some (.map es clk):=(k.block m (Array.getElem?_eq_some_iff.1 h1).1).trans h1
 have r2:=bn (P:=Tryz.prog) (w:=w) Tryz.underlying50 Tryz.underlying9 hm h2 s (eC w) false
 have h4:bH s es.toList=none:=h4
 rw[h4] at r2
 exact r2
theorem kI (w:World) (e:Bool) (i:Int) (s:ByteArray) (a:Option Addr) (l c:Nat):(Instr.field 78 (K #[.bool e,F E i,C s,D a l c]) 0).run Tryz.prog w = .ok (.bool e) w:=by kernel_rfl
def ck (env:ByteArray→Option Th) (k:Int) (nm:ByteArray):Bool:=decide (k=2)&&((env nm).getD Th.zero).edge
theorem oj {env:ByteArray→Option Th} (w0 w:World) (k vk vn:Int) (vs:ByteArray) (va:Option Addr) (vl vc:Nat) (nm:ByteArray) (a:Option Addr) (l c:Nat) (m:Nat) (hw:Below w0.heap.size w0 w) (hn:bI w0 m env):Calls Tryz.prog 118 #[K #[F E k,F E vk,F E vn,C vs,D va vl vc,C nm,D a l c],.map (some m)] w fun e w'=>e=J (.bool (ck env k nm))∧Below w.heap.size w w':=by
 by_cases hk:k=2
 ·subst hk
  have hb0:Below w.heap.size w (w.alloc (G #[F E 2,F E vk,F E vn,C vs,D va vl vc,C nm,D a l c] 33)):=(I _ _).alloc (H _) _
  have hw1:=hw.trans (hb0.mono hw.size)
  have HB:=aa hb0
  cases hx:env nm with
  | none=>
    have hlk:=ph hn nm hx _ hw1
    have hf:=kI (w.alloc (G #[F E 2,F E vk,F E vn,C vs,D va vl vc,C nm,D a l c] 33)) false 0 ⟨#[]⟩ none 0 0
    have ee:ck env 2 nm=false:=by simp[ck,hx,Th.zero]
    rw[ee]
    clear hb0 hw1 hw hn hx ee
    go_enter Tryz.func118,Tryz.ntmps118
    go_wp2_with fail
    go_ret
    exact⟨rfl,HB.out⟩
  | some x=>
    obtain⟨P,pa,pl,pc,-,-,-,hlk⟩:=eA hn nm x hx
    have hlk:=(hlk _ hw1).1
    have hf:=kI (w.alloc (G #[F E 2,F E vk,F E vn,C vs,D va vl vc,C nm,D a l c] 33)) x.edge x.id x.typ pa pl pc
    have ee:ck env 2 nm=x.edge:=by simp[ck,hx]
    rw[ee]
    clear hb0 hw1 hw hn hx ee
    go_enter Tryz.func118,Tryz.ntmps118
    go_wp2_with fail
    go_ret
    exact⟨rfl,HB.out⟩
 ·have hk':(k==2)=false:=by simp[hk]
  have hb0:Below w.heap.size w (w.alloc (G #[F E k,F E vk,F E vn,C vs,D va vl vc,C nm,D a l c] 33)):=(I _ _).alloc (H _) _
  have HB:=aa hb0
  have ee:ck env k nm=false:=by simp[ck,hk]
  rw[ee]
  clear hb0 hw hn ee
  go_enter Tryz.func118,Tryz.ntmps118
  go_wp2_with fail
  go_ret
  exact⟨rfl,HB.out⟩
theorem uk {R:Tm→Prop} (w0 w:World) (k vk vn:Int) (vs:ByteArray) (va:Option Addr) (vl vc:Nat) (nm:ByteArray) (a:Option Addr) (l c:Nat) (Lv:List T) (A:List Tm) (bm m:Nat) (tm:Int) (hw:Below w0.heap.size w0 w) (ht:bd w0 k vk vn vs va vl vc nm a l c Lv A) (htm:0≤tm∧tm≤6)
  (IH:∀(xk xvk xvn:Int) (xvs:ByteArray) (xva:Option Addr) (xvl xvc:Nat) (xnm:ByteArray) (xa:Option Addr) (xl xc:Nat) (Lv:List T) (A':List Tm),bd w0 xk xvk xvn xvs xva xvl xvc xnm xa xl xc Lv A'→.node xk (.node xvk xvn xvs Lv) xnm A' ∈ A→∀W,Below w0.heap.size w0 W→Calls Tryz.prog 56 #[.map (some bm),K #[F E xk,F E xvk,F E xvn,C xvs,D xva xvl xvc,C xnm,D xa xl xc],.map (some m),F E (tm+1)] W fun e w'=>(∃r,e=J (F E r)∧(r=0 ↔ R (.node xk (.node xvk xvn xvs Lv) xnm A')))∧Below W.heap.size W w'):Calls Tryz.prog 87 #[.map (some bm),K #[F E k,F E vk,F E vn,C vs,D va vl vc,C nm,D a l c],.map (some m),F E tm] w fun e w'=>(∃r,e=J (F E r)∧(r=0 ↔ Go.Proofs.YtijjpoohhgapoaaGreatDoor.nm nm=true∧∃x,A = [x]∧x.kind=2∧R x))∧Below w.heap.size w w':=by
 have HLEN:=aa ht.args.len.1
 have HNS:=aa ht.nms
 have HAR:=aa ht.args
 have hmx:=ht.args.len.2
 have HW:=aa hw
 have HIH:=aa IH
 have hwr:IntKind.i64.wrap (tm+1)=tm+1:=by rw[IntKind.wrap_i64];omega
 clear hw ht IH
 by_cases hl:l=1
 ·subst hl
  obtain⟨b,off,xk,xvk,xvn,xvs,xva,xvl,xvc,xnm,xa,xl,xc,Lv',A',ha,hbl,hd,⟨e0,e1,e2,e3,e4,e5,e6⟩,hta⟩:=HAR.out.at (i:=0) (by omega)
  rw[Nat.zero_mul,Nat.add_zero] at e0 e1 e2 e3 e4 e5 e6
  subst ha
  have HA:Hid (A = [.node xk (.node xvk xvn xvs Lv') xnm A']):=by
   have e:A = .node xk (.node xvk xvn xvs Lv') xnm A'::A.drop 1:=by simpa using hd
   have h1:A.drop 1 = []:=List.drop_eq_nil_of_le (by have:=HLEN.out;omega)
   rw[h1] at e
   exact e
  have HC:=aa (HIH.out xk xvk xvn xvs xva xvl xvc xnm xa xl xc Lv' A' hta (by rw[HA.out];exact List.mem_cons_self ..))
  have hb0:Below w.heap.size w (w.alloc (G #[F E k,F E vk,F E vn,C vs,D va vl vc,C nm,D (some ⟨b,off,none⟩) 1 c] 33)):=(I _ _).alloc (H _) _
  have hw1:=HW.out.trans (hb0.mono HW.out.size)
  have d0:(w.alloc (G #[F E k,F E vk,F E vn,C vs,D va vl vc,C nm,D (some ⟨b,off,none⟩) 1 c] 33)).cell? ⟨b,off,none⟩=some (F E xk):=(hw1.cell (p:=⟨b,off,none⟩) hbl).trans e0
  have d1:(w.alloc (G #[F E k,F E vk,F E vn,C vs,D va vl vc,C nm,D (some ⟨b,off,none⟩) 1 c] 33)).cell? ⟨b,off+1,none⟩=some (F E xvk):=(hw1.cell (p:=⟨b,off+1,none⟩) hbl).trans e1
  have d2:(w.alloc (G #[F E k,F E vk,F E vn,C vs,D va vl vc,C nm,D (some ⟨b,off,none⟩) 1 c] 33)).cell? ⟨b,off+2,none⟩=some (F E xvn):=(hw1.cell (p:=⟨b,off+2,none⟩) hbl).trans e2
  have d3:(w.alloc (G #[F E k,F E vk,F E vn,C vs,D va vl vc,C nm,D (some ⟨b,off,none⟩) 1 c] 33)).cell? ⟨b,off+3,none⟩=some (C xvs):=(hw1.cell (p:=⟨b,off+3,none⟩) hbl).trans e3
  have d4:(w.alloc (G #[F E k,F E vk,F E vn,C vs,D va vl vc,C nm,D (some ⟨b,off,none⟩) 1 c] 33)).cell? ⟨b,off+4,none⟩=some (D xva xvl xvc):=(hw1.cell (p:=⟨b,off+4,none⟩) hbl).trans e4
  have d5:(w.alloc (G #[F E k,F E vk,F E vn,C vs,D va vl vc,C nm,D (some ⟨b,off,none⟩) 1 c] 33)).cell? ⟨b,off+5,none⟩=some (C xnm):=(hw1.cell (p:=⟨b,off+5,none⟩) hbl).trans e5
  have d6:(w.alloc (G #[F E k,F E vk,F E vn,C vs,D va vl vc,C nm,D (some ⟨b,off,none⟩) 1 c] 33)).cell? ⟨b,off+6,none⟩=some (D xa xl xc):=(hw1.cell (p:=⟨b,off+6,none⟩) hbl).trans e6
  have hbW:b<(w.alloc (G #[F E k,F E vk,F E vn,C vs,D va vl vc,C nm,D (some ⟨b,off,none⟩) 1 c] 33)).heap.size:=Nat.lt_of_lt_of_le hbl hw1.size
  have HB:=aa hb0
  have h0:=ae w (G #[F E k,F E vk,F E vn,C vs,D va vl vc,C nm,D (some ⟨b,off,none⟩) 1 c] 33)
  have hz:(w.alloc (G #[F E k,F E vk,F E vn,C vs,D va vl vc,C nm,D (some ⟨b,off,none⟩) 1 c] 33)).heap.size=w.heap.size+1:=by simp
  have H0:=aa h0
  have HZ:=aa hz
  have HW1:=aa hw1
  have HE:=aa (show w0.cell? ⟨b,off,none⟩=some (F E xk)∧w0.cell? ⟨b,off+1,none⟩=some (F E xvk)∧w0.cell? ⟨b,off+2,none⟩=some (F E xvn)∧w0.cell? ⟨b,off+3,none⟩=some (C xvs)∧w0.cell? ⟨b,off+4,none⟩=some (D xva xvl xvc)∧w0.cell? ⟨b,off+5,none⟩=some (C xnm)∧w0.cell? ⟨b,off+6,none⟩=some (D xa xl xc) from⟨e0,e1,e2,e3,e4,e5,e6⟩)
  clear e0 e1 e2 e3 e4 e5 e6 hta hd h0 hz hw1 hb0 HAR HIH
  by_cases hk:xk=2
  ·subst hk
   go_enter Tryz.func87,Tryz.ntmps87
   go_wp2_with (go_at_call 62;refine(dv nm _ HNS.out).mono ?_)
   clear d0 d1 d2 d3 d4 d5 d6 hbW
   generalize w.alloc (G #[F E k,F E vk,F E vn,C vs,D va vl vc,C nm,D (some ⟨b,off,none⟩) 1 c] 33)=W at HB H0 HZ HW1 ⊢
   rintro e u1 ⟨rfl,k1⟩
   have hbb:=af HB.out k1
   have HBB:=aa hbb
   have hw0:Below w0.heap.size w0 u1:=HW.out.trans (hbb.mono HW.out.size)
   have h0:=(k1.block w.heap.size (by rw[HZ.out];omega)).trans H0.out
   have c6:=ac h0 6
   simp at c6
   have hsz:w.heap.size<u1.heap.size:=lt_block' h0
   obtain⟨e0,e1,e2,e3,e4,e5,e6⟩:=HE.out
   have d0:(u1).cell? ⟨b,off,none⟩=some (F E 2):=(hw0.cell (p:=⟨b,off,none⟩) hbl).trans e0
   have d1:(u1).cell? ⟨b,off+1,none⟩=some (F E xvk):=(hw0.cell (p:=⟨b,off+1,none⟩) hbl).trans e1
   have d2:(u1).cell? ⟨b,off+2,none⟩=some (F E xvn):=(hw0.cell (p:=⟨b,off+2,none⟩) hbl).trans e2
   have d3:(u1).cell? ⟨b,off+3,none⟩=some (C xvs):=(hw0.cell (p:=⟨b,off+3,none⟩) hbl).trans e3
   have d4:(u1).cell? ⟨b,off+4,none⟩=some (D xva xvl xvc):=(hw0.cell (p:=⟨b,off+4,none⟩) hbl).trans e4
   have d5:(u1).cell? ⟨b,off+5,none⟩=some (C xnm):=(hw0.cell (p:=⟨b,off+5,none⟩) hbl).trans e5
   have d6:(u1).cell? ⟨b,off+6,none⟩=some (D xa xl xc):=(hw0.cell (p:=⟨b,off+6,none⟩) hbl).trans e6
   have hbW:b<u1.heap.size:=Nat.lt_of_lt_of_le hbl hw0.size
   clear e0 e1 e2 e3 e4 e5 e6
   cases hb:Go.Proofs.YtijjpoohhgapoaaGreatDoor.nm nm with
   | false=>
     clear hbb hw0 h0 k1
     go_wp2_with fail
     go_ret
     exact⟨⟨_,rfl,by simp[hb]⟩,HBB.out⟩
   | true=>
     have HW2:=aa hw0
     clear hbb hw0 h0 k1
     go_wp2_with (go_at_call 56;refine(HC.out _ HW2.out).mono ?_)
     rintro e u2 ⟨⟨r,rfl,hr⟩,k2⟩
     have HR:=aa hr
     have HB2:=aa (af HBB.out k2)
     clear hr k2
     go_wp2_with fail
     go_ret
     exact⟨⟨r,rfl,by rw[HR.out,HA.out];simp[Tm.kind,hb]⟩,HB2.out⟩
  ·have hk':(xk != 2)=true:=by simp[hk]
   go_enter Tryz.func87,Tryz.ntmps87
   go_wp2_with fail
   go_ret
   exact⟨⟨_,rfl,by rw[HA.out];simp[Tm.kind,hk]⟩,HB.out⟩
 ·have HA:Hid (∀x,A ≠ [x]):=fun x e=>by have hlen:=HLEN.out;rw[e] at hlen;exact hl hlen
  have hl':((l:Int) != 1)=true:=by simp;omega
  have hb0:Below w.heap.size w (w.alloc (G #[F E k,F E vk,F E vn,C vs,D va vl vc,C nm,D a l c] 33)):=(I _ _).alloc (H _) _
  have HB:=aa hb0
  clear hb0
  go_enter Tryz.func87,Tryz.ntmps87
  go_wp2_with fail
  go_ret
  exact⟨⟨_,rfl,by simp[HA.out]⟩,HB.out⟩
end Go.Proofs.YtijjpoohhgapoaaGreatDoor

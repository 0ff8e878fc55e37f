import Derived.Test.YtijjpoohhgapoaaGreatDoorVQAR
namespace Go.Proofs.YtijjpoohhgapoaaGreatDoor
open Go.RowKit
set_option linter.unusedVariables false
set_option maxHeartbeats 4000000
set_option maxRecDepth 100000
open IntKind renaming i64 → C
open Value renaming int → D, string → F, slice → G, agg → M, tuple → N
open Obj renaming cells → H
open RowKit.Below renaming heap_setCell → I, refl → P
open Nat renaming le_refl → J
open Ending renaming returned → K
open Bool renaming and_eq_true → O
theorem gO (es:Nat→Int) (z:Int):∀(n i:Nat),(∀j,j<n→es (i+j)=0)→a8 es i n z=z
 | 0,i,_=>by simp[a8]
 | n+1,i,h=>by
   have h0:=h 0 (by omega)
   rw[Nat.add_zero] at h0
   rw[a8,if_pos h0]
   exact gO es z n (i+1) fun j hj=>by
    have:=h (j+1) (by omega)
    rw[show i+1+j=i+(j+1) from by omega]
    exact this
theorem oD (B:Nat) (w:World) (hB:B≤w.heap.size) (hT:bD B w) (d:Nat) (k n:Int) (s:ByteArray) (a:Option Addr) (l c lists:Nat) (L:List T) (h4:k≠4) (hs:s.size≤9223372036854775807) (hin:InT (.node k n s L)) (hL:am w L a l):∃e,iO w (M #[D C k,D C n,F s,G a l c]) lists e∧(e=0→Ck d (.node k n s L))∧(Ck d (.node k n s L)→e=0):=by
 have hl:=hL.length
 by_cases h3:k=3
 ·subst h3
  have hv:∀w1,Below w.heap.size w w1→∀w',Below w1.heap.size w1 w'→Calls Tryz.prog 60 #[F s] w' fun e w''=>e=K (.bool (Lib.validD s.data.toList))∧Below w'.heap.size w' w'':=fun w1 k1 w' k'=>Tryz.utf8_ValidString s w' hs (hT.below ((af k1 k').mono hB)).now
  refine⟨if s.size>4000 then 2 else if Lib.validD s.data.toList=true∧n=0∧l=0 then 0 else 6,fun w' k=>⟨fS n s a l c lists _ w' fun w2 k2=>eU n s a l c (Lib.validD s.data.toList) w2 hs hl.2 (hv w2 (af k k2)),by first | exact jV n s a l c (lists+1) (Lib.validD s.data.toList) _ w' hs hl.2 rfl (hv w' k) | exact trivial⟩,fun e=>?_,fun h=>by cases h with | text _ _ g0 g1=>rw[if_neg (by omega),if_pos ⟨g1,rfl,hl.1⟩]⟩
  split at e
  ·exact absurd e (by decide)
  ·split at e
   ·rename_i h1 h2
    obtain⟨h2,rfl,h5⟩:=h2
    have e1:L = []:=List.length_eq_zero_iff.1 (by omega)
    subst e1
    exact .text d s (by omega) h2
   ·exact absurd e (by decide)
 ·obtain⟨z,hz0,hz1,hz2,hz3,hz4⟩:∃z:Int,((k=0∧n=0∨k=1∧(n=0∨n=1)∨k=2)→s=⟨#[]⟩→l=0→z=0)∧(¬(k=0∧n=0∨k=1∧(n=0∨n=1)∨k=2)→z=6)∧(s≠⟨#[]⟩→z=6)∧(l≠0→z=6)∧(z=0→(k=0∧n=0∨k=1∧(n=0∨n=1)∨k=2)∧s=⟨#[]⟩∧l=0):=by
   by_cases hk:(k=0∧n=0∨k=1∧(n=0∨n=1)∨k=2)
   ·by_cases hs:s=⟨#[]⟩
    ·by_cases hl0:l=0
     ·exact⟨0,fun _ _ _=>rfl,fun h=>absurd hk h,fun h=>absurd hs h,fun h=>absurd hl0 h,fun _=>⟨hk,hs,hl0⟩⟩
     ·exact⟨6,fun _ _ h=>absurd h hl0,fun _=>rfl,fun _=>rfl,fun _=>rfl,fun h=>absurd h (by decide)⟩
    ·exact⟨6,fun _ h=>absurd h hs,fun _=>rfl,fun _=>rfl,fun _=>rfl,fun h=>absurd h (by decide)⟩
   ·exact⟨6,fun h=>absurd h hk,fun _=>rfl,fun _=>rfl,fun _=>rfl,fun h=>absurd h (by decide)⟩
  refine⟨z,fun w' kk=>⟨eq k n s a l c lists z w' (by simpa using h4) (by simpa using h3) fun w2 k2=>dK k n s a l c z w2 hz0 hz1 hz2 hz3 hl.2,by first | exact iW k n s a l c (lists+1) z w' hl.2 (by simpa using h4) (by simpa using h3) hz0 hz1 hz2 hz3 | exact trivial⟩,fun e=>?_,fun h=>?_⟩
  rotate_left
  ·cases h with
   | null=>exact hz0 (.inl ⟨rfl,rfl⟩) rfl hl.1
   | bool _ _ g=>exact hz0 (.inr (.inl ⟨rfl,g⟩)) rfl hl.1
   | int=>exact hz0 (.inr (.inr rfl)) rfl hl.1
   | text=>exact absurd rfl h3
   | list=>exact absurd rfl h4
  obtain⟨hk,rfl,h0⟩:=hz4 e
  have e1:L = []:=List.length_eq_zero_iff.1 (by omega)
  subst e1
  unfold InT at hin
  rcases hk with⟨rfl,rfl⟩ | ⟨rfl,h⟩ | rfl
  ·exact .null d
  ·exact .bool d n h
  ·exact .int d n hin.1.1 hin.1.2
theorem vt (B:Nat) (w:World) (hB:B≤w.heap.size) (hT:bD B w):∀(f lists:Nat),lists+f=6→∀(k n:Int) (s:ByteArray) (a:Option Addr) (l c:Nat) (L:List T),s.size≤9223372036854775807→InT (.node k n s L)→am w L a l→∃e,iO w (M #[D C k,D C n,F s,G a l c]) lists e∧(e=0→Ck f (.node k n s L))∧(Ck f (.node k n s L)→e=0):=by
 intro f
 induction f with
 | zero=>
   intro lists hd k n s a l c L hs hin hL
   by_cases h4:k=4
   ·subst h4
    exact⟨2,cA w n s a l c lists hL.length.2 (.inr (by omega)),fun e=>absurd e (by decide),fun h=>by cases h⟩
   ·exact oD B w hB hT _ k n s a l c lists L h4 hs hin hL
 | succ f ih=>
   intro lists hd k n s a l c L hs hin hL
   by_cases h4:k=4
   ·subst h4
    by_cases hm:30<l
    ·exact⟨2,cA w n s a l c lists hL.length.2 (.inl hm),fun e=>absurd e (by decide),fun h=>by cases h with | list _ _ g0 g1=>have:=hL.length.1;omega⟩
    ·obtain⟨z,hz0,hz1,hz2,hz3⟩:=qD n s
     by_cases h0:l=0
     ·subst h0
      have e1:L = []:=List.length_eq_zero_iff.1 hL.length.1.symm
      subst e1
      exact⟨z,fun w' k=>⟨cZ n s a 0 c lists z w' fun w2 k2=>eh 4 n s a c lists z w2 (by omega) hz0 hz1 hz2,by first | exact iY n s a c (lists+1) z w' (by omega) hz0 hz1 hz2 | exact trivial⟩,fun e=>by obtain⟨rfl,rfl⟩:=hz3 e;exact .list f [] (by simp) (fun t ht=>by cases ht),fun h=>by cases h with | list _ _ g0 g1=>exact hz0 rfl rfl⟩
     ·obtain⟨b,off,_,rfl,hb,_⟩:=hL.get (i:=0) (by omega)
      have hel:∀i,i<l→∃e,iO w ((cK w b off).at i) (lists+1) e∧(e=0→∀t,L.drop i=t::L.drop (i+1)→Ck f t)∧((∀t ∈ L,Ck f t)→e=0):=by
       intro i hi
       obtain⟨kt,nt,st,Lt,at',lt,ct,_,hd',p0,p1,p2,p3,hlc,hLt,_,hst⟩:=hL.at2 hi
       rw[fm p0 p1 p2 p3]
       have hmem:T.node kt nt st Lt ∈ L:=List.mem_of_mem_drop (by rw[hd'];exact List.mem_cons_self ..)
       obtain⟨e,he,hwe,hwi⟩:=ih (lists+1) (by omega) kt nt st at' lt ct Lt hst (InL.mem (by unfold InT at hin;exact hin.2) hmem) hLt
       refine⟨e,he,fun e0 t ht=>?_,fun h=>hwi (h _ hmem)⟩
       rw[hd'] at ht
       simp only[List.cons.injEq,and_true] at ht
       rw[←ht]
       exact hwe e0
      obtain⟨es,hes⟩:∃es:Nat→Int,∀i,i<l→iO w ((cK w b off).at i) (lists+1) (es i)∧(es i=0→∀t,L.drop i=t::L.drop (i+1)→Ck f t)∧((∀t ∈ L,Ck f t)→es i=0):=by
       refine⟨fun i=>if h:i<l then Classical.choose (hel i h) else 0,fun i hi=>?_⟩
       have:=Classical.choose_spec (hel i hi)
       simp only[dif_pos hi]
       exact this
      refine⟨a8 es 0 l z,fun w' k=>⟨?_,?_⟩,fun e=>?_,fun h=>?_⟩
      ·refine cZ n s (some ⟨b,off,none⟩) l c lists _ w' fun w2 k2=>?_
       have kk:=af k k2
       refine eV 4 n s b off l c lists es (cK w b off) z w2 hz0 hz1 hz2 (by omega) (by omega) (by omega) (by have:=kk.size;omega) (dl hL.listAt hb kk) fun i hi w3 k3=>?_
       have:=((hes i hi).1 w3 (af kk k3)).1
       rw[show((lists+1:Nat):Int)=(lists:Int)+1 from by omega] at this
       exact this
      ·first
       | exact trivial
       | (refine jW n s b off l c (lists+1) es (cK w b off) z w' hz0 hz1 hz2 (by omega) (by omega) (by omega) (by have:=k.size;omega) (dl hL.listAt hb k) fun i hi w3 k3=>?_
          have:=((hes i hi).1 w3 (af k k3)).2
          rw[show((lists+1:Nat):Int)=(lists:Int)+1 from by omega] at this
          exact this)
      ·obtain⟨hz,hall⟩:=eT es z l 0 e
       obtain⟨rfl,rfl⟩:=hz3 hz
       refine .list f L (by rw[←hL.length.1];omega) (fun t ht=>?_)
       obtain⟨i,hi,hdi⟩:=nT ht
       have hi':i<l:=by rw[hL.length.1];exact hi
       have h0:=hall i hi'
       rw[Nat.zero_add] at h0
       exact(hes i hi').2.1 h0 t hdi
      ·cases h with
       | list _ _ g0 g1=>rw[gO es z l 0 (fun i hi=>by rw[Nat.zero_add];exact(hes i hi).2.2 g1)];exact hz0 rfl rfl
   ·exact oD B w hB hT _ k n s a l c lists L h4 hs hin hL
def iC (k n:Int) (s:ByteArray) (L:List T):Bool:=
 L.isEmpty&&((k==0&&n==0&&s.toList.isEmpty)||(k==1&&(n==0||n==1)&&s.toList.isEmpty)||(k==2&&decide (-9223372036854775808≤n)&&decide (n≤9223372036854775807)&&s.toList.isEmpty)||(k==3&&n==0&&decide (s.size≤4000)&&Lib.validD s.data.toList))
def ckB:Nat→T→Bool
 | 0,.node k n s L=>iC k n s L
 | d+1,.node k n s L=>iC k n s L||(k==4&&n==0&&s.toList.isEmpty&&decide (L.length≤30)&&L.all (ckB d))
theorem noS {s:ByteArray} (h:s.toList.isEmpty=true):s=⟨#[]⟩:=by
 rw[ByteArray.toList_eq] at h
 obtain⟨d⟩:=s
 have:d.toList = []:=by simpa using h
 have:d = #[]:=by simpa using this
 rw[this]
theorem qf {k n:Int} {s:ByteArray} {L:List T} (d:Nat) (h:iC k n s L=true):Ck d (.node k n s L):=by
 unfold iC at h
 simp only[O,Bool.or_eq_true,beq_iff_eq,decide_eq_true_eq] at h
 obtain⟨hL,h⟩:=h
 have hL':L = []:=by simpa using hL
 subst hL'
 rcases h with((h | h) | h) | h
 ·obtain⟨⟨rfl,rfl⟩,hs⟩:=h
  rw[noS hs]
  exact .null d
 ·obtain⟨⟨rfl,hn⟩,hs⟩:=h
  rw[noS hs]
  exact .bool d n hn
 ·obtain⟨⟨⟨rfl,h1⟩,h2⟩,hs⟩:=h
  rw[noS hs]
  exact .int d n h1 h2
 ·obtain⟨⟨⟨rfl,rfl⟩,h1⟩,h2⟩:=h
  exact .text d s h1 h2
theorem jg:∀(d:Nat) (t:T),ckB d t=true ↔ Ck d t:=by
 have e0:(ByteArray.toList ⟨#[]⟩).isEmpty=true:=by rw[ByteArray.toList_eq];rfl
 have flat:∀(d:Nat) (k n:Int) (s:ByteArray) (L:List T),Ck d (.node k n s L)→k≠4→iC k n s L=true:=by
  intro d k n s L h hk
  cases h with
  | null d=>simp[iC]
  | bool d n h=>simp[iC,h]
  | int d n h0 h1=>simp[iC,h0,h1]
  | text d s h0 h1=>simp[iC,h0,h1]
  | list d L h0 h1=>exact absurd rfl hk
 intro d
 induction d with
 | zero=>
   intro t
   obtain⟨k,n,s,L⟩:=t
   refine⟨fun h=>qf 0 h,fun h=>?_⟩
   by_cases hk:k=4
   ·subst hk;cases h
   ·exact flat 0 k n s L h hk
 | succ d ih=>
   intro t
   obtain⟨k,n,s,L⟩:=t
   unfold ckB
   rw[Bool.or_eq_true]
   refine⟨fun h=>?_,fun h=>?_⟩
   ·rcases h with h | h
    ·exact qf (d+1) h
    ·simp only[O,beq_iff_eq,decide_eq_true_eq,List.all_eq_true] at h
     obtain⟨⟨⟨⟨rfl,rfl⟩,hs⟩,hl⟩,ha⟩:=h
     rw[noS hs]
     exact .list d L hl fun t ht=>(ih t).1 (ha t ht)
   ·by_cases hk:k=4
    ·subst hk
     cases h with
     | list d L h0 h1=>
       right
       rw[O,O,List.all_eq_true]
       exact⟨⟨by rw[e0];rfl,decide_eq_true h0⟩,fun t ht=>(ih t).2 (h1 t ht)⟩
    ·exact .inl (flat (d+1) k n s L h hk)
def eI (L:List T):T:=if ckB 6 (.node 4 0 ⟨#[]⟩ L)=true then .node 4 0 ⟨#[]⟩ L else aw
theorem jt (B:Nat) (w:World) (hB:B≤w.heap.size) (hT:bD B w) (k n:Int) (s:ByteArray) (a:Option Addr) (l c:Nat) (L:List T) (hs:s.size≤9223372036854775807) (hI:InT (.node k n s L)) (hL:am w L a l):∃e,(e=0 ↔ Ck 6 (.node k n s L))∧∀W,Below w.heap.size w W→Calls Tryz.prog 83 #[vC k n s a l c] W fun r w'=>r=K (D C e)∧Below W.heap.size W w':=by
 obtain⟨e,hb,h1,h2⟩:=vt B w hB hT 6 0 rfl k n s a l c L hs hI hL
 refine⟨e,⟨h1,h2⟩,fun W kk=>?_⟩
 have HC:Hid (∀V,Below w.heap.size w V→Calls Tryz.prog 117 #[vC k n s a l c,D C 0] V fun r w''=>r=K (D C e)∧Below V.heap.size V w''):=fun V q=>(hb V q).1
 have b0:Below w.heap.size w (W.alloc (H #[D C k,D C n,F s,G a l c] 30)):=kk.alloc kk.size _
 have bW:Below W.heap.size W (W.alloc (H #[D C k,D C n,F s,G a l c] 30)):=(P _ _).alloc (J _) _
 have HB0:=aa b0
 have HBW:=aa bW
 clear hb b0 bW kk hL hI
 go_enter Tryz.func83,Tryz.ntmps83
 go_wp2_with fail
 refine(HC.out _ HB0.out).mono ?_
 rintro e w1 ⟨rfl,k1⟩
 have hbb:=af HBW.out k1
 go_wp2_with fail
 go_ret
 exact⟨rfl,hbb⟩
theorem sn (A:Nat→Prop) (L:List T) (a:Option Addr) (l c:Nat) (w:World) (hL:ap A w L a l) (B:Nat) (hB:B≤w.heap.size) (hT:bD B w) (hI:InL L) (hlc:l≤c):Calls Tryz.prog 54 #[G a l c] w fun e w'=>aL A w w' (eI L) e∧Below w.heap.size w w':=by
 obtain⟨er,hiff,hchk⟩:=jt B w hB hT 4 0 ⟨#[]⟩ a l c L (by decide) (by unfold InT;exact⟨by omega,hI⟩) (ap.lies _ _ _ hL)
 have HC:=aa hchk
 have hb2:Below w.heap.size w ((w.alloc (H #[D C 0,D C 0,F ⟨#[]⟩,G none 0 0] 30)).alloc (H #[D C 4,D C 0,F ⟨#[]⟩,G a l c] 30)):=((P _ _).alloc (J _) _).alloc (by simp) _
 have hr2:((w.alloc (H #[D C 0,D C 0,F ⟨#[]⟩,G none 0 0] 30)).alloc (H #[D C 4,D C 0,F ⟨#[]⟩,G a l c] 30)).heap[w.heap.size]? = some (H #[D C 0,D C 0,F ⟨#[]⟩,G none 0 0] 30 (0,0)):=(Below.heap_alloc (w.alloc (H #[D C 0,D C 0,F ⟨#[]⟩,G none 0 0] 30)) (H #[D C 4,D C 0,F ⟨#[]⟩,G a l c] 30) w.heap.size (by simp)).trans (ae w (H #[D C 0,D C 0,F ⟨#[]⟩,G none 0 0] 30))
 have hx2:=ay w (H #[D C 0,D C 0,F ⟨#[]⟩,G none 0 0] 30) (H #[D C 4,D C 0,F ⟨#[]⟩,G a l c] 30)
 have hz2:((w.alloc (H #[D C 0,D C 0,F ⟨#[]⟩,G none 0 0] 30)).alloc (H #[D C 4,D C 0,F ⟨#[]⟩,G a l c] 30)).heap.size=w.heap.size+2:=by simp
 have HB2:=aa hb2
 have HR2:=aa hr2
 have HX2:=aa hx2
 have HZ2:=aa hz2
 have HL:=aa hL
 clear hb2 hr2 hx2 hz2 hchk hL hI hT hB
 by_cases he:er=0
 ·have he':(er != 0)=false:=by simp[he]
  have e1:eI L = .node 4 0 ⟨#[]⟩ L:=by unfold eI;rw[if_pos ((jg _ _).2 (hiff.1 he))]
  rw[e1]
  clear e1 hiff he
  go_enter Tryz.func54,Tryz.ntmps54
  go_wp2_with fail
  refine(HC.out _ HB2.out).mono ?_
  generalize (w.alloc (H #[D C 0,D C 0,F ⟨#[]⟩,G none 0 0] 30)).alloc (H #[D C 4,D C 0,F ⟨#[]⟩,G a l c] 30)=W at HB2 HR2 HX2 HZ2 ⊢
  rintro e w1 ⟨rfl,k1⟩
  have hb1:=(k1.block w.heap.size (by rw[HZ2.out];omega)).trans HR2.out
  have hx1:=(k1.block (w.heap.size+1) (by rw[HZ2.out];omega)).trans HX2.out
  obtain⟨r0,r1,r2,r3⟩:=ai hb1
  obtain⟨fr0,fr1,fr2,fr3⟩:=aq hb1
  simp at r0 r1 r2 r3
  obtain⟨x0,x1,x2,x3⟩:=ai hx1
  simp at x0 x1 x2 x3
  have hs1:w.heap.size+1<w1.heap.size:=by have:=k1.size;rw[HZ2.out] at this;omega
  have HW1:=aa (af HB2.out k1)
  have HB1:=aa hb1
  clear k1 hb1 hx1
  go_wp2_with fail
  have eP:∀X:World,(((X.setCell ⟨w.heap.size,0,none⟩ (D C 4)).setCell ⟨w.heap.size,1,none⟩ (D C 0)).setCell ⟨w.heap.size,2,none⟩ (F ⟨#[]⟩)).setCell ⟨w.heap.size,3,none⟩ (G a l c)=au X (w.heap.size) 0 [D C 4,D C 0,F ⟨#[]⟩,G a l c]:=fun _=>rfl
  rw[eP]
  have E:=dh HB1.out rfl (D C 4) (D C 0) (F ⟨#[]⟩) (G a l c)
  have hbb:Below w.heap.size w (au w1 (w.heap.size) 0 [D C 4,D C 0,F ⟨#[]⟩,G a l c]):=HW1.out.trans ((aE (w.heap.size) _ _ w1).mono (J _))
  have hoth:∀j,j≠w.heap.size→(au w1 (w.heap.size) 0 [D C 4,D C 0,F ⟨#[]⟩,G a l c]).heap[j]? = w1.heap[j]?:=fun j hj=>aB _ _ _ _ j hj
  have hsz:(au w1 (w.heap.size) 0 [D C 4,D C 0,F ⟨#[]⟩,G a l c]).heap.size=w1.heap.size:=aD _ _ _ _
  generalize au w1 (w.heap.size) 0 [D C 4,D C 0,F ⟨#[]⟩,G a l c]=Y at E hbb hoth hsz ⊢
  obtain⟨t0,t1,t2,t3⟩:=ai E
  simp at t0 t1 t2 t3
  exact bodyPost_ret (v:=M #[D C 4,D C 0,F ⟨#[]⟩,G a l c]) (by simp[results,Tryz.results54,go_sem,t0,t1,t2,t3]) rfl ⟨⟨4,0,⟨#[]⟩,a,l,c,L,rfl,rfl,hlc,by decide,ap.kept hbb.size (fun i hi hl=>⟨.inl hi,hbb.block i hl⟩) _ _ _ HL.out⟩,hbb⟩
 ·have he':(er != 0)=true:=by simp[he]
  have e1:eI L = .node 0 0 ⟨#[]⟩ []:=by unfold eI;rw[if_neg (fun h=>he (hiff.2 ((jg _ _).1 h)))];rfl
  rw[e1]
  clear e1 hiff he
  go_enter Tryz.func54,Tryz.ntmps54
  go_wp2_with fail
  refine(HC.out _ HB2.out).mono ?_
  generalize (w.alloc (H #[D C 0,D C 0,F ⟨#[]⟩,G none 0 0] 30)).alloc (H #[D C 4,D C 0,F ⟨#[]⟩,G a l c] 30)=W at HB2 HR2 HX2 HZ2 ⊢
  rintro e w1 ⟨rfl,k1⟩
  have hb1:=(k1.block w.heap.size (by rw[HZ2.out];omega)).trans HR2.out
  obtain⟨r0,r1,r2,r3⟩:=ai hb1
  obtain⟨fr0,fr1,fr2,fr3⟩:=aq hb1
  simp at r0 r1 r2 r3
  have hs1:w.heap.size<w1.heap.size:=by have:=k1.size;rw[HZ2.out] at this;omega
  have HW1:=aa (af HB2.out k1)
  have HB1:=aa hb1
  clear k1 hb1
  go_wp2_with fail
  have eP:∀X:World,(((X.setCell ⟨w.heap.size,0,none⟩ (D C 0)).setCell ⟨w.heap.size,1,none⟩ (D C 0)).setCell ⟨w.heap.size,2,none⟩ (F ⟨#[]⟩)).setCell ⟨w.heap.size,3,none⟩ (G none 0 0)=au X (w.heap.size) 0 [D C 0,D C 0,F ⟨#[]⟩,G none 0 0]:=fun _=>rfl
  rw[eP]
  have E:=dh HB1.out rfl (D C 0) (D C 0) (F ⟨#[]⟩) (G none 0 0)
  have hbb:Below w.heap.size w (au w1 (w.heap.size) 0 [D C 0,D C 0,F ⟨#[]⟩,G none 0 0]):=HW1.out.trans ((aE (w.heap.size) _ _ w1).mono (J _))
  have hoth:∀j,j≠w.heap.size→(au w1 (w.heap.size) 0 [D C 0,D C 0,F ⟨#[]⟩,G none 0 0]).heap[j]? = w1.heap[j]?:=fun j hj=>aB _ _ _ _ j hj
  have hsz:(au w1 (w.heap.size) 0 [D C 0,D C 0,F ⟨#[]⟩,G none 0 0]).heap.size=w1.heap.size:=aD _ _ _ _
  generalize au w1 (w.heap.size) 0 [D C 0,D C 0,F ⟨#[]⟩,G none 0 0]=Y at E hbb hoth hsz ⊢
  obtain⟨t0,t1,t2,t3⟩:=ai E
  simp at t0 t1 t2 t3
  exact bodyPost_ret (v:=M #[D C 0,D C 0,F ⟨#[]⟩,G none 0 0]) (by simp[results,Tryz.results54,go_sem,t0,t1,t2,t3]) rfl ⟨aL.flat _ _ _ (by decide),hbb⟩
theorem eS {w:World} {B n size:Nat} {e:TypeId} {v:Value} {xs:List Value} (h:w.ownsRow B e size v n xs):∃a c,v=G a n c∧n≤c:=by
 rcases h.2 with⟨rfl,rfl⟩ | ⟨g,cap,cur,rfl,h1,h2,h3,_⟩
 ·exact⟨none,0,rfl,J _⟩
 ·exact⟨_,cap,rfl,h3⟩
def wz (w':World) (k n:Int) (s:ByteArray) (L:List T) (er:Int) (e:Ending):Prop:=∃a' l' c',e=K (N #[M #[D C k,D C n,F s,G a' l' c'],D C er])∧l'≤c'∧am w' L a' l'
def uf (A:Nat→Prop) (w':World) (k n:Int) (s:ByteArray) (L:List T) (er:Int) (e:Ending):Prop:=∃a' l' c',e=K (N #[M #[D C k,D C n,F s,G a' l' c'],D C er])∧l'≤c'∧ap A w' L a' l'
theorem fD {w:World} {a:Option Addr} {cs:List Value} (p:∀j u,cs[j]? = some u→∃ad,a=some ad∧ad.block<w.heap.size∧w.cell? (ad.add j)=some u) {W:World} (kW:Below w.heap.size w W):∀j u,cs[j]? = some u→∃ad,a=some ad∧W.cell? (ad.add j)=some u:=fun j u hu=>by
 obtain⟨ad,ea,hb,hc⟩:=p j u hu
 refine⟨ad,ea,(kW.cell (p:=ad.add j) ?_).trans hc⟩
 have:(ad.add j).block=ad.block:=by unfold Addr.add;split<;>rfl
 rw[this]
 exact hb
theorem fL (a1 a2:Option Addr) (l1 c1 l2 c2:Nat) (L1 L2:List T) (w:World) (hL1:am w L1 a1 l1) (hL2:am w L2 a2 l2) (hs:l1+l2≤30) (hw:wtL L1+wtL L2≤1099511627776) :
 Calls Tryz.prog 114 #[G a1 l1 c1,G a2 l2 c2] w fun e w'=>uf (fun i=>w.heap.size≤i) w' 4 0 ⟨#[]⟩ (L1++L2) 0 e∧Below w.heap.size w w':=by
 obtain⟨cs1,n1,p1,o1,d1⟩:=gI hL1
 obtain⟨cs2,n2,p2,o2,d2⟩:=gI hL2
 have e1:=hL1.length.1
 have e2:=hL2.length.1
 have hs1:¬((30:Int)<(l1:Int)+(l2:Int)):=by omega
 obtain⟨i4,hi0,hiz,his,hib⟩:=dw
 have HI0:=aa hi0
 have HIZ:=aa hiz
 have HIS:=aa his
 have HIB:=aa hib
 have HN1:=aa n1
 have HN2:=aa n2
 have HO1:=aa o1
 have HO2:=aa o2
 have HW:=aa hw
 have HD:Hid (fF w (L1++L2) (cs1++cs2)):=d1.append d2 (by rw[n1,e1])
 have HP1:Hid (∀W,Below w.heap.size w W→∀j u,cs1[j]? = some u→∃ad,a1=some ad∧W.cell? (ad.add j)=some u):=fun W kW=>fD p1 kW
 have HP2:Hid (∀W,Below w.heap.size w W→∀j u,cs2[j]? = some u→∃ad,a2=some ad∧W.cell? (ad.add j)=some u):=fun W kW=>fD p2 kW
 have HE:Hid (l1+l2=(L1++L2).length):=aa (by rw[List.length_append,e1,e2])
 have hb56:i4.bytes*(l1+l2)≤281474976710656:=by rw[hib];omega
 have hmx:l1+l2≤maxLen:=by unfold maxLen;omega
 clear hi0 hiz his hib n1 n2 p1 p2 o1 o2 d1 d2 e1 e2 hL1 hL2 hw
 have b0:Below w.heap.size w (w.alloc (H #[D C 0,D C 0,F ⟨#[]⟩,G none 0 0] 30)):=(P _ _).alloc (J _) _
 have q0:=ae w (H #[D C 0,D C 0,F ⟨#[]⟩,G none 0 0] 30)
 have z0:(w.alloc (H #[D C 0,D C 0,F ⟨#[]⟩,G none 0 0] 30)).heap.size=w.heap.size+1:=by simp
 have HB0:=aa b0
 have HQ0:=aa q0
 have HZ0:=aa z0
 clear b0 q0 z0
 go_enter Tryz.func114,Tryz.ntmps114
 go_wp2_with (at_make;refine wpList_make_own _ rfl _ _ 28 rfl (w.heap.size+1) 30 i4 _ 4 Tryz.underlying28 HI0.out HIZ.out HIS.out .i64 .i64 ((l1:Int)+(l2:Int)) (l1+l2) rfl rfl (by omega) hb56 hmx (by rw[HZ0.out];exact J _) ?_)
 generalize (w.alloc (H #[D C 0,D C 0,F ⟨#[]⟩,G none 0 0] 30))=W at HB0 HQ0 HZ0 ⊢
 intro w1 hown1 hg1
 have hz1:w.heap.size+1≤w1.heap.size:=by have:=hg1.size;rw[HZ0.out] at this;exact this
 have HB1:Hid (Below w.heap.size w w1):=HB0.out.grown hg1 (by rw[HZ0.out];omega) (fun k hk=>by cases hk)
 have HQ1:Hid (w1.heap[w.heap.size]? = _):=(hg1.block w.heap.size (by rw[HZ0.out];omega) (by simp)).trans HQ0.out
 have HOWN1:=aa hown1
 clear hown1 hg1
 have HB30:0+l1≤maxLen:=by unfold maxLen;omega
 have HB31:l1+l2≤maxLen:=by unfold maxLen;omega
 have HB56:(0+l1)*56≤140737488355328:=by omega
 have HB57:(l1+l2)*56≤140737488355328:=by omega
 go_wp2_with (at_builtin;refine eD _ rfl _ _ 28 rfl (w.heap.size+1) 30 i4 _ 4 56 Tryz.underlying28 HI0.out HIZ.out HIS.out HIB.out rfl (by omega) (G (some ⟨w.heap.size+1,0,none⟩) 0 (l1+l2)) 0 [] rfl HOWN1.out a1 l1 c1 cs1 rfl HN1.out (HP1.out _ HB1.out) HO1.out HB30 HB56 hz1 ?_)
 intro v2 w2 hown2 hg2 hat2
 have hz2:w.heap.size+1≤w2.heap.size:=Nat.le_trans hz1 hg2.size
 have hne1:∀k,(Value.slice (some ⟨w.heap.size+1,0,none⟩) 0 (l1+l2)).ownBlock=some k→w.heap.size+1≤k:=fun k hk=>by
  have:w.heap.size+1=k:=Option.some.inj hk
  omega
 have HB2:Hid (Below w.heap.size w w2):=HB1.out.grown hg2 (by omega) (fun k hk=>by have:=hne1 k hk;omega)
 have HQ2:Hid (w2.heap[w.heap.size]? = _):=(hg2.block w.heap.size (by omega) (fun h=>by have:=hne1 _ h.symm;omega)).trans HQ1.out
 have HOWN2:=aa hown2
 obtain⟨av2,cv2,hv2,hcv2⟩:=eS hown2
 subst hv2
 clear hown2 hg2 hat2 hne1 HQ1 HOWN1
 go_wp2_with (at_builtin;refine eD _ rfl _ _ 28 rfl (w.heap.size+1) 30 i4 _ 4 56 Tryz.underlying28 HI0.out HIZ.out HIS.out HIB.out rfl (by omega) (G av2 l1 cv2) l1 cs1 rfl HOWN2.out a2 l2 c2 cs2 rfl HN2.out (HP2.out _ HB2.out) HO2.out HB31 HB57 hz2 ?_)
 intro v3 w3 hown3 hg3 hat3
 have hz3:w.heap.size+1≤w3.heap.size:=Nat.le_trans hz2 hg3.size
 have HB3:Hid (Below w.heap.size w w3):=HB2.out.grown hg3 (by omega) (fun k hk=>by have:=(HOWN2.out.lt k hk).1;omega)
 have HQ3:Hid (w3.heap[w.heap.size]? = _):=(hg3.block w.heap.size (by omega) (fun h=>by have:=(HOWN2.out.lt _ h.symm).1;omega)).trans HQ2.out
 obtain⟨av,cv,rfl,hcv,hlies⟩:=kd hown3 HE.out (by rw[←HE.out];omega) HD.out (fun Lt a l h=>h.below HB3.out)
 have HL3:=aa hlies
 have HV:Hid (Calls Tryz.prog 57 #[G av (l1+l2) cv] w3 fun e w'=>jL w3 w' (L1++L2) (l1+l2) e∧Below w3.heap.size w3 w'):=jM (L1++L2) av (l1+l2) cv w3 hlies (by have:=pO L1 L2;have:=HW.out;omega)
 clear hown3 hg3 hat3 hlies HOWN2 HQ2 HB2
 go_wp2_with fail
 refine HV.out.mono ?_
 rintro e w4 ⟨⟨a',c',rfl,hlc,hL4⟩,k4⟩
 have hq4:=(k4.block w.heap.size (by omega)).trans HQ3.out
 have HK4:Hid (Below w.heap.size w w4):=HB3.out.trans (k4.mono (by omega))
 have HQ4:=aa hq4
 have HL4:=aa hL4
 obtain⟨r0,r1,r2,r3⟩:=ai hq4
 obtain⟨f0,f1,f2,f3⟩:=aq hq4
 simp at r0 r1 r2 r3
 have sz4:w.heap.size<w4.heap.size:=(Array.getElem?_eq_some_iff.1 hq4).1
 clear hq4 hL4 k4
 go_wp2_with fail
 have E:=set4_here (b:=w.heap.size) HQ4.out (D C 4) (D C 0) (F ⟨#[]⟩) (G a' (l1+l2) c')
 have hbb:Below w.heap.size w ((((w4.setCell ⟨w.heap.size,0,none⟩ (D C 4)).setCell ⟨w.heap.size,1,none⟩ (D C 0)).setCell ⟨w.heap.size,2,none⟩ (F ⟨#[]⟩)).setCell ⟨w.heap.size,3,none⟩ (G a' (l1+l2) c')):=(((HK4.out.setCell (p:=⟨w.heap.size,0,none⟩) (J _) _).setCell (p:=⟨w.heap.size,1,none⟩) (J _) _).setCell (p:=⟨w.heap.size,2,none⟩) (J _) _).setCell (p:=⟨w.heap.size,3,none⟩) (J _) _
 have hkeep:∀i,i≠w.heap.size→(((((w4.setCell ⟨w.heap.size,0,none⟩ (D C 4)).setCell ⟨w.heap.size,1,none⟩ (D C 0)).setCell ⟨w.heap.size,2,none⟩ (F ⟨#[]⟩)).setCell ⟨w.heap.size,3,none⟩ (G a' (l1+l2) c'))).heap[i]? = w4.heap[i]?:=fun i hi=>by
  rw[I _ _ _ i hi,I _ _ _ i hi,I _ _ _ i hi,I _ _ _ i hi]
 have hsz:(((((w4.setCell ⟨w.heap.size,0,none⟩ (D C 4)).setCell ⟨w.heap.size,1,none⟩ (D C 0)).setCell ⟨w.heap.size,2,none⟩ (F ⟨#[]⟩)).setCell ⟨w.heap.size,3,none⟩ (G a' (l1+l2) c'))).heap.size=w4.heap.size:=by simp[World.setCell]
 generalize ((((w4.setCell ⟨w.heap.size,0,none⟩ (D C 4)).setCell ⟨w.heap.size,1,none⟩ (D C 0)).setCell ⟨w.heap.size,2,none⟩ (F ⟨#[]⟩)).setCell ⟨w.heap.size,3,none⟩ (G a' (l1+l2) c'))=Y at E hbb hkeep hsz ⊢
 have hL5:ap (fun i=>w.heap.size≤i) Y (L1++L2) a' (l1+l2):=ap.kept (Nat.le_of_eq hsz.symm) (fun i hi _=>⟨by have:w3.heap.size≤i:=hi;omega,hkeep i (by have:w3.heap.size≤i:=hi;omega)⟩) _ _ _ HL4.out
 obtain⟨t0,t1,t2,t3⟩:=ai E
 simp at t0 t1 t2 t3
 exact bodyPost_ret (v:=N #[M #[D C 4,D C 0,F ⟨#[]⟩,G a' (l1+l2) c'],D C 0]) (by simp[results,Tryz.results114,go_sem,t0,t1,t2,t3]) rfl ⟨⟨_,_,_,rfl,hlc,hL5⟩,hbb⟩
theorem tt (n1 n2:Int) (s1 s2:ByteArray) (a1 a2:Option Addr) (l1 c1 l2 c2:Nat) (L1 L2:List T) (w:World) (hL1:am w L1 a1 l1) (hL2:am w L2 a2 l2) (hs:l1+l2≤30) (hw:wtL L1+wtL L2≤1099511627776) :
 Calls Tryz.prog 79 #[F ⟨#[43]⟩,M #[D C 4,D C n1,F s1,G a1 l1 c1],M #[D C 4,D C n2,F s2,G a2 l2 c2]] w fun e w'=>wz w' 4 0 ⟨#[]⟩ (L1++L2) 0 e∧Below w.heap.size w w':=by
 have HJ:Hid (∀U,Below w.heap.size w U→Calls Tryz.prog 114 #[G a1 l1 c1,G a2 l2 c2] U fun e w'=>uf (fun i=>U.heap.size≤i) w' 4 0 ⟨#[]⟩ (L1++L2) 0 e∧Below U.heap.size U w'):=fun U kU=>fL a1 a2 l1 c1 l2 c2 L1 L2 U (hL1.below kU) (hL2.below kU) hs hw
 have b0:Below w.heap.size w (((w.alloc (H #[D C 4,D C n1,F s1,G a1 l1 c1] 30)).alloc (H #[D C 4,D C n2,F s2,G a2 l2 c2] 30)).alloc (H #[D C 0,D C 0,F ⟨#[]⟩,G none 0 0] 30)):=(((P _ _).alloc (J _) _).alloc (by simp) _).alloc (by simp;omega) _
 have q3:=(three_alloc w (H #[D C 4,D C n1,F s1,G a1 l1 c1] 30) (H #[D C 4,D C n2,F s2,G a2 l2 c2] 30) (H #[D C 0,D C 0,F ⟨#[]⟩,G none 0 0] 30)).2.2
 have z0:(((w.alloc (H #[D C 4,D C n1,F s1,G a1 l1 c1] 30)).alloc (H #[D C 4,D C n2,F s2,G a2 l2 c2] 30)).alloc (H #[D C 0,D C 0,F ⟨#[]⟩,G none 0 0] 30)).heap.size=w.heap.size+3:=by simp
 have HB0:=aa b0
 have HQ3:=aa q3
 have HZ0:=aa z0
 clear b0 q3 z0
 go_enter Tryz.func79,Tryz.ntmps79
 go_wp2_with fail
 refine(HJ.out _ HB0.out).mono ?_
 generalize (((w.alloc (H #[D C 4,D C n1,F s1,G a1 l1 c1] 30)).alloc (H #[D C 4,D C n2,F s2,G a2 l2 c2] 30)).alloc (H #[D C 0,D C 0,F ⟨#[]⟩,G none 0 0] 30))=W at HB0 HQ3 HZ0 ⊢
 rintro e w1 ⟨⟨a',l',c',rfl,hlc,hL'⟩,k1⟩
 have HL':=aa hL'
 clear hL'
 have hr:=(k1.block (w.heap.size+2) (by rw[HZ0.out];omega)).trans HQ3.out
 have HK:=aa (HB0.out.trans (k1.mono HB0.out.size))
 have HR:=aa hr
 obtain⟨r0,r1,r2,r3⟩:=ai hr
 obtain⟨f0,f1,f2,f3⟩:=aq hr
 simp at r0 r1 r2 r3
 have sz2:w.heap.size+2<w1.heap.size:=(Array.getElem?_eq_some_iff.1 hr).1
 clear hr k1
 go_wp2_with fail
 have E:=set4_here (b:=w.heap.size+1+1) HR.out (D C 4) (D C 0) (F ⟨#[]⟩) (G a' l' c')
 have hbb:Below w.heap.size w ((((w1.setCell ⟨w.heap.size+1+1,0,none⟩ (D C 4)).setCell ⟨w.heap.size+1+1,1,none⟩ (D C 0)).setCell ⟨w.heap.size+1+1,2,none⟩ (F ⟨#[]⟩)).setCell ⟨w.heap.size+1+1,3,none⟩ (G a' l' c')):=(((HK.out.setCell (p:=⟨w.heap.size+1+1,0,none⟩) (by show w.heap.size≤w.heap.size+1+1;omega) _).setCell (p:=⟨w.heap.size+1+1,1,none⟩) (by show w.heap.size≤w.heap.size+1+1;omega) _).setCell (p:=⟨w.heap.size+1+1,2,none⟩) (by show w.heap.size≤w.heap.size+1+1;omega) _).setCell (p:=⟨w.heap.size+1+1,3,none⟩) (by show w.heap.size≤w.heap.size+1+1;omega) _
 have hkeep:∀i,i≠w.heap.size+1+1→((((w1.setCell ⟨w.heap.size+1+1,0,none⟩ (D C 4)).setCell ⟨w.heap.size+1+1,1,none⟩ (D C 0)).setCell ⟨w.heap.size+1+1,2,none⟩ (F ⟨#[]⟩)).setCell ⟨w.heap.size+1+1,3,none⟩ (G a' l' c')).heap[i]? = w1.heap[i]?:=fun i hi=>by
  rw[I _ _ _ i hi,I _ _ _ i hi,I _ _ _ i hi,I _ _ _ i hi]
 have hsz:((((w1.setCell ⟨w.heap.size+1+1,0,none⟩ (D C 4)).setCell ⟨w.heap.size+1+1,1,none⟩ (D C 0)).setCell ⟨w.heap.size+1+1,2,none⟩ (F ⟨#[]⟩)).setCell ⟨w.heap.size+1+1,3,none⟩ (G a' l' c')).heap.size=w1.heap.size:=by simp[World.setCell]
 generalize ((((w1.setCell ⟨w.heap.size+1+1,0,none⟩ (D C 4)).setCell ⟨w.heap.size+1+1,1,none⟩ (D C 0)).setCell ⟨w.heap.size+1+1,2,none⟩ (F ⟨#[]⟩)).setCell ⟨w.heap.size+1+1,3,none⟩ (G a' l' c'))=Y at E hbb hkeep hsz ⊢
 have hL5:ap (fun _=>True) Y (L1++L2) a' l':=ap.kept (Nat.le_of_eq hsz.symm) (fun i hi _=>⟨trivial,hkeep i (by have:W.heap.size≤i:=hi;rw[HZ0.out] at this;omega)⟩) _ _ _ HL'.out
 obtain⟨t0,t1,t2,t3⟩:=ai E
 simp at t0 t1 t2 t3
 exact bodyPost_ret (v:=N #[M #[D C 4,D C 0,F ⟨#[]⟩,G a' l' c'],D C 0]) (by simp[results,Tryz.results79,go_sem,t0,t1,t2,t3]) rfl ⟨⟨_,_,_,rfl,hlc,ap.lies _ _ _ hL5⟩,hbb⟩
end Go.Proofs.YtijjpoohhgapoaaGreatDoor

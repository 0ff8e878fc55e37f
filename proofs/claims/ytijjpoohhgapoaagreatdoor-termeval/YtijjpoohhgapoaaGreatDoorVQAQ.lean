import Derived.Test.YtijjpoohhgapoaaGreatDoorVQAP
import Derived.Laws.OwnMore
namespace Go.Proofs.YtijjpoohhgapoaaGreatDoor
open Go.RowKit
set_option linter.unusedVariables false
set_option maxHeartbeats 2000000
set_option maxRecDepth 100000
open IntKind renaming i64 → A
open Value renaming int → B, string → C, slice → F, tuple → H, agg → J
open Obj renaming cells → G
open Ending renaming returned → I
open Nat renaming le_refl → L
open RowKit.Below renaming refl → M
def dF (x:Int):Bool:=decide (-9223372036854775808≤x∧x≤9223372036854775807)
def kvI (o:Option Int):Int:=if o.isSome then 2 else 0
def nv (o:Option Int):Int:=o.getD 0
def aH (x:Int):Option Int:=if dF x then some x else none
def kM (x:Int):Int:=if dF x then 0 else 4
theorem aJ (x:Int):dF x=true ↔ -9223372036854775808≤x∧x≤9223372036854775807:=by simp[dF]
theorem mA (a b:Int) (ha0:-9223372036854775808≤a) (ha1:a≤9223372036854775807) (hb0:-9223372036854775808≤b) (hb1:b≤9223372036854775807) (h0:-9223372036854775808≤a+b) (h1:a+b≤9223372036854775807) (w:World) :
 Calls Tryz.prog 112 #[C ⟨#[43]⟩,B A a,B A b] w fun e w'=>e=I (H #[J #[B A 2,B A (a+b),C ⟨#[]⟩,F none 0 0],B A 0])∧Below w.heap.size w w':=by
 by_cases hb:b<0
 ·have t1:a+b<a:=by omega
  go_enter Tryz.func112,Tryz.ntmps112
  go_wp2
  exact bodyPost_ret (v:=H #[J #[B A 2,B A (a+b),C ⟨#[]⟩,F none 0 0],B A 0]) (by simp[results,Tryz.results112,go_sem]) rfl ⟨rfl,(M _ _).alloc (L _) _⟩
 ·have t1:¬a+b<a:=by omega
  go_enter Tryz.func112,Tryz.ntmps112
  go_wp2
  exact bodyPost_ret (v:=H #[J #[B A 2,B A (a+b),C ⟨#[]⟩,F none 0 0],B A 0]) (by simp[results,Tryz.results112,go_sem]) rfl ⟨rfl,(M _ _).alloc (L _) _⟩
theorem kE (a b N:Int) (hN:Go.RowKit.wrap64 (a+b)=N) (t1:N<a) (t2:¬b<0) (w:World) :
 Calls Tryz.prog 112 #[C ⟨#[43]⟩,B A a,B A b] w fun e w'=>e=I (H #[J #[B A 0,B A 0,C ⟨#[]⟩,F none 0 0],B A 4])∧Below w.heap.size w w':=by
 go_enter Tryz.func112,Tryz.ntmps112
 go_wp2
 exact bodyPost_ret (v:=H #[J #[B A 0,B A 0,C ⟨#[]⟩,F none 0 0],B A 4]) (by simp[results,Tryz.results112,go_sem]) rfl ⟨rfl,(M _ _).alloc (L _) _⟩
theorem kD (a b N:Int) (hN:Go.RowKit.wrap64 (a+b)=N) (t1:¬N<a) (t2:b<0) (w:World) :
 Calls Tryz.prog 112 #[C ⟨#[43]⟩,B A a,B A b] w fun e w'=>e=I (H #[J #[B A 0,B A 0,C ⟨#[]⟩,F none 0 0],B A 4])∧Below w.heap.size w w':=by
 go_enter Tryz.func112,Tryz.ntmps112
 go_wp2
 exact bodyPost_ret (v:=H #[J #[B A 0,B A 0,C ⟨#[]⟩,F none 0 0],B A 4]) (by simp[results,Tryz.results112,go_sem]) rfl ⟨rfl,(M _ _).alloc (L _) _⟩
theorem kw (a b N:Int) (hN:Go.RowKit.wrap64 (a-b)=N) (t1:a<N) (t2:¬b<0) (w:World) :
 Calls Tryz.prog 112 #[C ⟨#[45]⟩,B A a,B A b] w fun e w'=>e=I (H #[J #[B A 0,B A 0,C ⟨#[]⟩,F none 0 0],B A 4])∧Below w.heap.size w w':=by
 go_enter Tryz.func112,Tryz.ntmps112
 go_wp2
 exact bodyPost_ret (v:=H #[J #[B A 0,B A 0,C ⟨#[]⟩,F none 0 0],B A 4]) (by simp[results,Tryz.results112,go_sem]) rfl ⟨rfl,(M _ _).alloc (L _) _⟩
theorem kq (a b N:Int) (hN:Go.RowKit.wrap64 (a-b)=N) (t1:¬a<N) (t2:b<0) (w:World) :
 Calls Tryz.prog 112 #[C ⟨#[45]⟩,B A a,B A b] w fun e w'=>e=I (H #[J #[B A 0,B A 0,C ⟨#[]⟩,F none 0 0],B A 4])∧Below w.heap.size w w':=by
 go_enter Tryz.func112,Tryz.ntmps112
 go_wp2
 exact bodyPost_ret (v:=H #[J #[B A 0,B A 0,C ⟨#[]⟩,F none 0 0],B A 4]) (by simp[results,Tryz.results112,go_sem]) rfl ⟨rfl,(M _ _).alloc (L _) _⟩
theorem mz (a b:Int) (ha0:-9223372036854775808≤a) (ha1:a≤9223372036854775807) (hb0:-9223372036854775808≤b) (hb1:b≤9223372036854775807) (h0:-9223372036854775808≤a-b) (h1:a-b≤9223372036854775807) (w:World) :
 Calls Tryz.prog 112 #[C ⟨#[45]⟩,B A a,B A b] w fun e w'=>e=I (H #[J #[B A 2,B A (a-b),C ⟨#[]⟩,F none 0 0],B A 0])∧Below w.heap.size w w':=by
 by_cases hb:b<0
 ·have t1:a<a-b:=by omega
  go_enter Tryz.func112,Tryz.ntmps112
  go_wp2
  exact bodyPost_ret (v:=H #[J #[B A 2,B A (a-b),C ⟨#[]⟩,F none 0 0],B A 0]) (by simp[results,Tryz.results112,go_sem]) rfl ⟨rfl,(M _ _).alloc (L _) _⟩
 ·have t1:¬a<a-b:=by omega
  go_enter Tryz.func112,Tryz.ntmps112
  go_wp2
  exact bodyPost_ret (v:=H #[J #[B A 2,B A (a-b),C ⟨#[]⟩,F none 0 0],B A 0]) (by simp[results,Tryz.results112,go_sem]) rfl ⟨rfl,(M _ _).alloc (L _) _⟩
theorem li (b:Int) (w:World) :
 Calls Tryz.prog 112 #[C ⟨#[42]⟩,B A 0,B A b] w fun e w'=>e=I (H #[J #[B A 2,B A 0,C ⟨#[]⟩,F none 0 0],B A 0])∧Below w.heap.size w w':=by
 go_enter Tryz.func112,Tryz.ntmps112
 go_wp2
 exact bodyPost_ret (v:=H #[J #[B A 2,B A 0,C ⟨#[]⟩,F none 0 0],B A 0]) (by simp[results,Tryz.results112,go_sem]) rfl ⟨rfl,(M _ _).alloc (L _) _⟩
theorem nZ (a b N:Int) (hN:Go.RowKit.wrap64 (a*b)=N) (D:Int) (hD:Go.RowKit.wrap64 (N.tdiv a)=D) (h1:(D==b)=false) (ha:(a==0)=false) (w:World) :
 Calls Tryz.prog 112 #[C ⟨#[42]⟩,B A a,B A b] w fun e w'=>e=I (H #[J #[B A 0,B A 0,C ⟨#[]⟩,F none 0 0],B A 4])∧Below w.heap.size w w':=by
 have ha2:¬a=0:=by simpa using ha
 go_enter Tryz.func112,Tryz.ntmps112
 go_wp2
 exact bodyPost_ret (v:=H #[J #[B A 0,B A 0,C ⟨#[]⟩,F none 0 0],B A 4]) (by simp[results,Tryz.results112,go_sem]) rfl ⟨rfl,(M _ _).alloc (L _) _⟩
theorem ky (a b N:Int) (hN:Go.RowKit.wrap64 (a*b)=N) (hD:Go.RowKit.wrap64 (N.tdiv a)=b) (hm:(a == -1)=false) (ha:(a==0)=false) (w:World) :
 Calls Tryz.prog 112 #[C ⟨#[42]⟩,B A a,B A b] w fun e w'=>e=I (H #[J #[B A 2,B A N,C ⟨#[]⟩,F none 0 0],B A 0])∧Below w.heap.size w w':=by
 have ha2:¬a=0:=by simpa using ha
 go_enter Tryz.func112,Tryz.ntmps112
 go_wp2
 exact bodyPost_ret (v:=H #[J #[B A 2,B A N,C ⟨#[]⟩,F none 0 0],B A 0]) (by simp[results,Tryz.results112,go_sem]) rfl ⟨rfl,(M _ _).alloc (L _) _⟩
theorem kB (a b N:Int) (hN:Go.RowKit.wrap64 (a*b)=N) (hD:Go.RowKit.wrap64 (N.tdiv a)=b) (hm:(a == -1)=true) (hb:(b == -9223372036854775808)=false) (ha:(a==0)=false) (w:World) :
 Calls Tryz.prog 112 #[C ⟨#[42]⟩,B A a,B A b] w fun e w'=>e=I (H #[J #[B A 2,B A N,C ⟨#[]⟩,F none 0 0],B A 0])∧Below w.heap.size w w':=by
 have ha2:¬a=0:=by simpa using ha
 go_enter Tryz.func112,Tryz.ntmps112
 go_wp2
 exact bodyPost_ret (v:=H #[J #[B A 2,B A N,C ⟨#[]⟩,F none 0 0],B A 0]) (by simp[results,Tryz.results112,go_sem]) rfl ⟨rfl,(M _ _).alloc (L _) _⟩
theorem kC (a b N:Int) (hN:Go.RowKit.wrap64 (a*b)=N) (hD:Go.RowKit.wrap64 (N.tdiv a)=b) (hm:(a == -1)=true) (hb:(b == -9223372036854775808)=true) (ha:(a==0)=false) (w:World) :
 Calls Tryz.prog 112 #[C ⟨#[42]⟩,B A a,B A b] w fun e w'=>e=I (H #[J #[B A 0,B A 0,C ⟨#[]⟩,F none 0 0],B A 4])∧Below w.heap.size w w':=by
 have ha2:¬a=0:=by simpa using ha
 go_enter Tryz.func112,Tryz.ntmps112
 go_wp2
 exact bodyPost_ret (v:=H #[J #[B A 0,B A 0,C ⟨#[]⟩,F none 0 0],B A 4]) (by simp[results,Tryz.results112,go_sem]) rfl ⟨rfl,(M _ _).alloc (L _) _⟩
theorem gW (x:Int) (h0:-9223372036854775808≤x) (h1:x≤9223372036854775807):Go.RowKit.wrap64 x=x:=by
 unfold Go.RowKit.wrap64
 omega
theorem mb (x:Int):-9223372036854775808≤Go.RowKit.wrap64 x∧Go.RowKit.wrap64 x≤9223372036854775807∧∃q,Go.RowKit.wrap64 x=x-18446744073709551616*q:=by
 unfold Go.RowKit.wrap64
 refine⟨by omega,by omega,?_⟩
 exact⟨(x+9223372036854775808) / 18446744073709551616,by omega⟩
theorem sj (a b:Int) (ha0:-9223372036854775808≤a) (ha1:a≤9223372036854775807) (hb0:-9223372036854775808≤b) (hb1:b≤9223372036854775807) (hz:a≠0) (hf:dF (a*b)=false) (hd:Go.RowKit.wrap64 ((Go.RowKit.wrap64 (a*b)).tdiv a)=b):a = -1∧b = -9223372036854775808:=by
 obtain⟨r0,r1,q,hq⟩:=mb (a*b)
 have hf':¬(-9223372036854775808≤a*b∧a*b≤9223372036854775807):=by
  intro h
  rw[(aJ _).2 h] at hf
  exact absurd hf (by decide)
 by_cases hm:a = -1
 ·refine⟨hm,?_⟩
  subst hm
  omega
 ·exfalso
  generalize hN:Go.RowKit.wrap64 (a*b)=N at hq r0 r1 hd
  have hdiv:N.tdiv a*a+N.tmod a=N:=Int.tdiv_mul_add_tmod N a
  have hmod:(N.tmod a).natAbs<a.natAbs:=by
   rw[Int.natAbs_tmod]
   exact Nat.mod_lt _ (by omega)
  have habs:(N.tdiv a).natAbs≤N.natAbs:=by
   rw[Int.natAbs_tdiv]
   exact Nat.div_le_self _ _
  have hrange:-9223372036854775808≤N.tdiv a∧N.tdiv a≤9223372036854775807:=by
   refine⟨by omega,?_⟩
   by_cases hN':N = -9223372036854775808
   ·by_cases h2:a.natAbs=1
    ·have ha:a=1:=by omega
     subst ha
     rw[Int.tdiv_one]
     omega
    ·have:(N.tdiv a).natAbs≤N.natAbs / 2:=by
      rw[Int.natAbs_tdiv]
      exact Nat.div_le_div_left (by omega) (by omega)
     omega
   ·omega
  rw[gW _ hrange.1 hrange.2] at hd
  rw[hd] at hdiv
  have:b*a=a*b:=Int.mul_comm b a
  rw[this] at hdiv
  have hq0:q≠0:=by
   intro h
   subst h
   omega
  omega
theorem iA {x:Int} (h:dF x=true):aH x=some x:=by simp[aH,h]
theorem kF {x:Int} (h:dF x=false):aH x=none:=by simp[aH,h]
theorem jI {x:Int} (h:dF x=true):kM x=0:=by simp[kM,h]
theorem mE {x:Int} (h:dF x=false):kM x=4:=by simp[kM,h]
theorem qg {x:Int} (h:dF x=false):x < -9223372036854775808∨9223372036854775807<x:=by
 rcases Int.lt_or_le x (-9223372036854775808) with h1 | h1
 ·exact .inl h1
 ·refine .inr ?_
  rcases Int.lt_or_le 9223372036854775807 x with h2 | h2
  ·exact h2
  ·rw[(aJ _).2 ⟨h1,h2⟩] at h
   exact absurd h (by decide)
theorem sB (a b:Int) (ha:dF a=true) (hb:dF b=true) (w:World) :
 Calls Tryz.prog 112 #[C ⟨#[43]⟩,B A a,B A b] w fun e w'=>e=I (H #[J #[B A (kvI (aH (a+b))),B A (nv (aH (a+b))),C ⟨#[]⟩,F none 0 0],B A (kM (a+b))])∧Below w.heap.size w w':=by
 have ha':=(aJ _).1 ha
 have hb':=(aJ _).1 hb
 cases hf:dF (a+b) with
 | true=>
   have h:=(aJ _).1 hf
   rw[iA hf,jI hf]
   exact mA a b ha'.1 ha'.2 hb'.1 hb'.2 h.1 h.2 w
 | false=>
   rw[kF hf,mE hf]
   rcases qg hf with h | h
   ·exact kD a b (Go.RowKit.wrap64 (a+b)) rfl (by unfold Go.RowKit.wrap64;omega) (by omega) w
   ·exact kE a b (Go.RowKit.wrap64 (a+b)) rfl (by unfold Go.RowKit.wrap64;omega) (by omega) w
theorem sx (a b:Int) (ha:dF a=true) (hb:dF b=true) (w:World) :
 Calls Tryz.prog 112 #[C ⟨#[45]⟩,B A a,B A b] w fun e w'=>e=I (H #[J #[B A (kvI (aH (a-b))),B A (nv (aH (a-b))),C ⟨#[]⟩,F none 0 0],B A (kM (a-b))])∧Below w.heap.size w w':=by
 have ha':=(aJ _).1 ha
 have hb':=(aJ _).1 hb
 cases hf:dF (a-b) with
 | true=>
   have h:=(aJ _).1 hf
   rw[iA hf,jI hf]
   exact mz a b ha'.1 ha'.2 hb'.1 hb'.2 h.1 h.2 w
 | false=>
   rw[kF hf,mE hf]
   rcases qg hf with h | h
   ·exact kw a b (Go.RowKit.wrap64 (a-b)) rfl (by unfold Go.RowKit.wrap64;omega) (by omega) w
   ·exact kq a b (Go.RowKit.wrap64 (a-b)) rfl (by unfold Go.RowKit.wrap64;omega) (by omega) w
theorem sy (a b:Int) (ha:dF a=true) (hb:dF b=true) (w:World) :
 Calls Tryz.prog 112 #[C ⟨#[42]⟩,B A a,B A b] w fun e w'=>e=I (H #[J #[B A (kvI (aH (a*b))),B A (nv (aH (a*b))),C ⟨#[]⟩,F none 0 0],B A (kM (a*b))])∧Below w.heap.size w w':=by
 have ha':=(aJ _).1 ha
 have hb':=(aJ _).1 hb
 by_cases hz:a=0
 ·subst hz
  have hf:dF (0*b)=true:=by rw[Int.zero_mul];decide
  rw[iA hf,jI hf,Int.zero_mul]
  exact li b w
 ·cases hf:dF (a*b) with
  | true=>
    have h:=(aJ _).1 hf
    rw[iA hf,jI hf]
    have e1:Go.RowKit.wrap64 (a*b)=a*b:=gW _ h.1 h.2
    have e2:Go.RowKit.wrap64 ((a*b).tdiv a)=b:=by rw[Int.mul_tdiv_cancel_left b hz];exact gW _ hb'.1 hb'.2
    by_cases hm:a = -1
    ·refine kB a b (a*b) e1 e2 (by simp[hm]) ?_ (by simpa using hz) w
     simp
     rintro rfl
     subst hm
     revert hf
     decide
    ·exact ky a b (a*b) e1 e2 (by simpa using hm) (by simpa using hz) w
  | false=>
    rw[kF hf,mE hf]
    cases hr:(Go.RowKit.wrap64 ((Go.RowKit.wrap64 (a*b)).tdiv a)==b) with
    | false=>exact nZ a b _ rfl _ rfl hr (by simpa using hz) w
    | true=>
      obtain⟨h1,h2⟩:=sj a b ha'.1 ha'.2 hb'.1 hb'.2 hz hf (by simpa using hr)
      exact kC a b _ rfl (by simpa using hr) (by simp[h1]) (by simp[h2]) (by simpa using hz) w
theorem jZ (k n er:Int) (n1 n2:Int) (s1 s2:ByteArray) (a1 a2:Option Addr) (l1 c1 l2 c2:Nat) (w:World)
 (h:∀U,Calls Tryz.prog 112 #[C ⟨#[43]⟩,B A n1,B A n2] U fun e w'=>e=I (H #[J #[B A k,B A n,C ⟨#[]⟩,F none 0 0],B A er])∧Below U.heap.size U w') :
 Calls Tryz.prog 79 #[C ⟨#[43]⟩,J #[B A 2,B A n1,C s1,F a1 l1 c1],J #[B A 2,B A n2,C s2,F a2 l2 c2]] w fun e w'=>e=I (H #[J #[B A k,B A n,C ⟨#[]⟩,F none 0 0],B A er])∧Below w.heap.size w w':=by
 have HJ:Hid (∀U,Calls Tryz.prog 112 #[C ⟨#[43]⟩,B A n1,B A n2] U fun e w'=>e=I (H #[J #[B A k,B A n,C ⟨#[]⟩,F none 0 0],B A er])∧Below U.heap.size U w'):=fun U=>h U
 have b0:Below w.heap.size w (((w.alloc (G #[B A 2,B A n1,C s1,F a1 l1 c1] 30)).alloc (G #[B A 2,B A n2,C s2,F a2 l2 c2] 30)).alloc (G #[B A 0,B A 0,C ⟨#[]⟩,F none 0 0] 30)):=(((M _ _).alloc (L _) _).alloc (by simp) _).alloc (by simp;omega) _
 have q3:=(three_alloc w (G #[B A 2,B A n1,C s1,F a1 l1 c1] 30) (G #[B A 2,B A n2,C s2,F a2 l2 c2] 30) (G #[B A 0,B A 0,C ⟨#[]⟩,F none 0 0] 30)).2.2
 have z0:(((w.alloc (G #[B A 2,B A n1,C s1,F a1 l1 c1] 30)).alloc (G #[B A 2,B A n2,C s2,F a2 l2 c2] 30)).alloc (G #[B A 0,B A 0,C ⟨#[]⟩,F none 0 0] 30)).heap.size=w.heap.size+3:=by simp
 have HB0:=aa b0
 have HQ3:=aa q3
 have HZ0:=aa z0
 clear b0 q3 z0
 go_enter Tryz.func79,Tryz.ntmps79
 go_wp2_with fail
 refine(HJ.out _).mono ?_
 generalize (((w.alloc (G #[B A 2,B A n1,C s1,F a1 l1 c1] 30)).alloc (G #[B A 2,B A n2,C s2,F a2 l2 c2] 30)).alloc (G #[B A 0,B A 0,C ⟨#[]⟩,F none 0 0] 30))=W at HB0 HQ3 HZ0 ⊢
 rintro e w1 ⟨rfl,k1⟩
 have hr:=(k1.block (w.heap.size+2) (by rw[HZ0.out];omega)).trans HQ3.out
 have HK:=aa (HB0.out.trans (k1.mono HB0.out.size))
 have HR:=aa hr
 obtain⟨r0,r1,r2,r3⟩:=ai hr
 obtain⟨f0,f1,f2,f3⟩:=aq hr
 simp at r0 r1 r2 r3
 have sz2:w.heap.size+2<w1.heap.size:=(Array.getElem?_eq_some_iff.1 hr).1
 clear hr k1
 go_wp2_with fail
 have E:=set4_here (b:=w.heap.size+1+1) HR.out (B A k) (B A n) (C ⟨#[]⟩) (F none 0 0)
 have hbb:Below w.heap.size w ((((w1.setCell ⟨w.heap.size+1+1,0,none⟩ (B A k)).setCell ⟨w.heap.size+1+1,1,none⟩ (B A n)).setCell ⟨w.heap.size+1+1,2,none⟩ (C ⟨#[]⟩)).setCell ⟨w.heap.size+1+1,3,none⟩ (F none 0 0)):=(((HK.out.setCell (p:=⟨w.heap.size+1+1,0,none⟩) (by show w.heap.size≤w.heap.size+1+1;omega) _).setCell (p:=⟨w.heap.size+1+1,1,none⟩) (by show w.heap.size≤w.heap.size+1+1;omega) _).setCell (p:=⟨w.heap.size+1+1,2,none⟩) (by show w.heap.size≤w.heap.size+1+1;omega) _).setCell (p:=⟨w.heap.size+1+1,3,none⟩) (by show w.heap.size≤w.heap.size+1+1;omega) _
 generalize ((((w1.setCell ⟨w.heap.size+1+1,0,none⟩ (B A k)).setCell ⟨w.heap.size+1+1,1,none⟩ (B A n)).setCell ⟨w.heap.size+1+1,2,none⟩ (C ⟨#[]⟩)).setCell ⟨w.heap.size+1+1,3,none⟩ (F none 0 0))=Y at E hbb ⊢
 obtain⟨t0,t1,t2,t3⟩:=ai E
 simp at t0 t1 t2 t3
 exact bodyPost_ret (v:=H #[J #[B A k,B A n,C ⟨#[]⟩,F none 0 0],B A er]) (by simp[results,Tryz.results79,go_sem,t0,t1,t2,t3]) rfl ⟨rfl,hbb⟩
theorem jX (k n er:Int) (n1 n2:Int) (s1 s2:ByteArray) (a1 a2:Option Addr) (l1 c1 l2 c2:Nat) (w:World)
 (h:∀U,Calls Tryz.prog 112 #[C ⟨#[45]⟩,B A n1,B A n2] U fun e w'=>e=I (H #[J #[B A k,B A n,C ⟨#[]⟩,F none 0 0],B A er])∧Below U.heap.size U w') :
 Calls Tryz.prog 79 #[C ⟨#[45]⟩,J #[B A 2,B A n1,C s1,F a1 l1 c1],J #[B A 2,B A n2,C s2,F a2 l2 c2]] w fun e w'=>e=I (H #[J #[B A k,B A n,C ⟨#[]⟩,F none 0 0],B A er])∧Below w.heap.size w w':=by
 have HJ:Hid (∀U,Calls Tryz.prog 112 #[C ⟨#[45]⟩,B A n1,B A n2] U fun e w'=>e=I (H #[J #[B A k,B A n,C ⟨#[]⟩,F none 0 0],B A er])∧Below U.heap.size U w'):=fun U=>h U
 have b0:Below w.heap.size w (((w.alloc (G #[B A 2,B A n1,C s1,F a1 l1 c1] 30)).alloc (G #[B A 2,B A n2,C s2,F a2 l2 c2] 30)).alloc (G #[B A 0,B A 0,C ⟨#[]⟩,F none 0 0] 30)):=(((M _ _).alloc (L _) _).alloc (by simp) _).alloc (by simp;omega) _
 have q3:=(three_alloc w (G #[B A 2,B A n1,C s1,F a1 l1 c1] 30) (G #[B A 2,B A n2,C s2,F a2 l2 c2] 30) (G #[B A 0,B A 0,C ⟨#[]⟩,F none 0 0] 30)).2.2
 have z0:(((w.alloc (G #[B A 2,B A n1,C s1,F a1 l1 c1] 30)).alloc (G #[B A 2,B A n2,C s2,F a2 l2 c2] 30)).alloc (G #[B A 0,B A 0,C ⟨#[]⟩,F none 0 0] 30)).heap.size=w.heap.size+3:=by simp
 have HB0:=aa b0
 have HQ3:=aa q3
 have HZ0:=aa z0
 clear b0 q3 z0
 go_enter Tryz.func79,Tryz.ntmps79
 go_wp2_with fail
 refine(HJ.out _).mono ?_
 generalize (((w.alloc (G #[B A 2,B A n1,C s1,F a1 l1 c1] 30)).alloc (G #[B A 2,B A n2,C s2,F a2 l2 c2] 30)).alloc (G #[B A 0,B A 0,C ⟨#[]⟩,F none 0 0] 30))=W at HB0 HQ3 HZ0 ⊢
 rintro e w1 ⟨rfl,k1⟩
 have hr:=(k1.block (w.heap.size+2) (by rw[HZ0.out];omega)).trans HQ3.out
 have HK:=aa (HB0.out.trans (k1.mono HB0.out.size))
 have HR:=aa hr
 obtain⟨r0,r1,r2,r3⟩:=ai hr
 obtain⟨f0,f1,f2,f3⟩:=aq hr
 simp at r0 r1 r2 r3
 have sz2:w.heap.size+2<w1.heap.size:=(Array.getElem?_eq_some_iff.1 hr).1
 clear hr k1
 go_wp2_with fail
 have E:=set4_here (b:=w.heap.size+1+1) HR.out (B A k) (B A n) (C ⟨#[]⟩) (F none 0 0)
 have hbb:Below w.heap.size w ((((w1.setCell ⟨w.heap.size+1+1,0,none⟩ (B A k)).setCell ⟨w.heap.size+1+1,1,none⟩ (B A n)).setCell ⟨w.heap.size+1+1,2,none⟩ (C ⟨#[]⟩)).setCell ⟨w.heap.size+1+1,3,none⟩ (F none 0 0)):=(((HK.out.setCell (p:=⟨w.heap.size+1+1,0,none⟩) (by show w.heap.size≤w.heap.size+1+1;omega) _).setCell (p:=⟨w.heap.size+1+1,1,none⟩) (by show w.heap.size≤w.heap.size+1+1;omega) _).setCell (p:=⟨w.heap.size+1+1,2,none⟩) (by show w.heap.size≤w.heap.size+1+1;omega) _).setCell (p:=⟨w.heap.size+1+1,3,none⟩) (by show w.heap.size≤w.heap.size+1+1;omega) _
 generalize ((((w1.setCell ⟨w.heap.size+1+1,0,none⟩ (B A k)).setCell ⟨w.heap.size+1+1,1,none⟩ (B A n)).setCell ⟨w.heap.size+1+1,2,none⟩ (C ⟨#[]⟩)).setCell ⟨w.heap.size+1+1,3,none⟩ (F none 0 0))=Y at E hbb ⊢
 obtain⟨t0,t1,t2,t3⟩:=ai E
 simp at t0 t1 t2 t3
 exact bodyPost_ret (v:=H #[J #[B A k,B A n,C ⟨#[]⟩,F none 0 0],B A er]) (by simp[results,Tryz.results79,go_sem,t0,t1,t2,t3]) rfl ⟨rfl,hbb⟩
theorem jY (k n er:Int) (n1 n2:Int) (s1 s2:ByteArray) (a1 a2:Option Addr) (l1 c1 l2 c2:Nat) (w:World)
 (h:∀U,Calls Tryz.prog 112 #[C ⟨#[42]⟩,B A n1,B A n2] U fun e w'=>e=I (H #[J #[B A k,B A n,C ⟨#[]⟩,F none 0 0],B A er])∧Below U.heap.size U w') :
 Calls Tryz.prog 79 #[C ⟨#[42]⟩,J #[B A 2,B A n1,C s1,F a1 l1 c1],J #[B A 2,B A n2,C s2,F a2 l2 c2]] w fun e w'=>e=I (H #[J #[B A k,B A n,C ⟨#[]⟩,F none 0 0],B A er])∧Below w.heap.size w w':=by
 have HJ:Hid (∀U,Calls Tryz.prog 112 #[C ⟨#[42]⟩,B A n1,B A n2] U fun e w'=>e=I (H #[J #[B A k,B A n,C ⟨#[]⟩,F none 0 0],B A er])∧Below U.heap.size U w'):=fun U=>h U
 have b0:Below w.heap.size w (((w.alloc (G #[B A 2,B A n1,C s1,F a1 l1 c1] 30)).alloc (G #[B A 2,B A n2,C s2,F a2 l2 c2] 30)).alloc (G #[B A 0,B A 0,C ⟨#[]⟩,F none 0 0] 30)):=(((M _ _).alloc (L _) _).alloc (by simp) _).alloc (by simp;omega) _
 have q3:=(three_alloc w (G #[B A 2,B A n1,C s1,F a1 l1 c1] 30) (G #[B A 2,B A n2,C s2,F a2 l2 c2] 30) (G #[B A 0,B A 0,C ⟨#[]⟩,F none 0 0] 30)).2.2
 have z0:(((w.alloc (G #[B A 2,B A n1,C s1,F a1 l1 c1] 30)).alloc (G #[B A 2,B A n2,C s2,F a2 l2 c2] 30)).alloc (G #[B A 0,B A 0,C ⟨#[]⟩,F none 0 0] 30)).heap.size=w.heap.size+3:=by simp
 have HB0:=aa b0
 have HQ3:=aa q3
 have HZ0:=aa z0
 clear b0 q3 z0
 go_enter Tryz.func79,Tryz.ntmps79
 go_wp2_with fail
 refine(HJ.out _).mono ?_
 generalize (((w.alloc (G #[B A 2,B A n1,C s1,F a1 l1 c1] 30)).alloc (G #[B A 2,B A n2,C s2,F a2 l2 c2] 30)).alloc (G #[B A 0,B A 0,C ⟨#[]⟩,F none 0 0] 30))=W at HB0 HQ3 HZ0 ⊢
 rintro e w1 ⟨rfl,k1⟩
 have hr:=(k1.block (w.heap.size+2) (by rw[HZ0.out];omega)).trans HQ3.out
 have HK:=aa (HB0.out.trans (k1.mono HB0.out.size))
 have HR:=aa hr
 obtain⟨r0,r1,r2,r3⟩:=ai hr
 obtain⟨f0,f1,f2,f3⟩:=aq hr
 simp at r0 r1 r2 r3
 have sz2:w.heap.size+2<w1.heap.size:=(Array.getElem?_eq_some_iff.1 hr).1
 clear hr k1
 go_wp2_with fail
 have E:=set4_here (b:=w.heap.size+1+1) HR.out (B A k) (B A n) (C ⟨#[]⟩) (F none 0 0)
 have hbb:Below w.heap.size w ((((w1.setCell ⟨w.heap.size+1+1,0,none⟩ (B A k)).setCell ⟨w.heap.size+1+1,1,none⟩ (B A n)).setCell ⟨w.heap.size+1+1,2,none⟩ (C ⟨#[]⟩)).setCell ⟨w.heap.size+1+1,3,none⟩ (F none 0 0)):=(((HK.out.setCell (p:=⟨w.heap.size+1+1,0,none⟩) (by show w.heap.size≤w.heap.size+1+1;omega) _).setCell (p:=⟨w.heap.size+1+1,1,none⟩) (by show w.heap.size≤w.heap.size+1+1;omega) _).setCell (p:=⟨w.heap.size+1+1,2,none⟩) (by show w.heap.size≤w.heap.size+1+1;omega) _).setCell (p:=⟨w.heap.size+1+1,3,none⟩) (by show w.heap.size≤w.heap.size+1+1;omega) _
 generalize ((((w1.setCell ⟨w.heap.size+1+1,0,none⟩ (B A k)).setCell ⟨w.heap.size+1+1,1,none⟩ (B A n)).setCell ⟨w.heap.size+1+1,2,none⟩ (C ⟨#[]⟩)).setCell ⟨w.heap.size+1+1,3,none⟩ (F none 0 0))=Y at E hbb ⊢
 obtain⟨t0,t1,t2,t3⟩:=ai E
 simp at t0 t1 t2 t3
 exact bodyPost_ret (v:=H #[J #[B A k,B A n,C ⟨#[]⟩,F none 0 0],B A er]) (by simp[results,Tryz.results79,go_sem,t0,t1,t2,t3]) rfl ⟨rfl,hbb⟩
theorem kp (a1 a2:Option Addr) (l1 c1 l2 c2:Nat) (w:World) (hs:30<l1+l2) (hm:l1+l2≤9223372036854775807) :
 Calls Tryz.prog 114 #[F a1 l1 c1,F a2 l2 c2] w fun e w'=>e=I (H #[J #[B A 0,B A 0,C ⟨#[]⟩,F none 0 0],B A 2])∧Below w.heap.size w w':=by
 have hs1:(30:Int)<(l1:Int)+(l2:Int):=by omega
 go_enter Tryz.func114,Tryz.ntmps114
 go_wp2_with fail
 have E:=ae w (G #[B A 0,B A 0,C ⟨#[]⟩,F none 0 0] 30)
 have hbb:Below w.heap.size w (w.alloc (G #[B A 0,B A 0,C ⟨#[]⟩,F none 0 0] 30)):=(M _ _).alloc (L _) _
 generalize w.alloc (G #[B A 0,B A 0,C ⟨#[]⟩,F none 0 0] 30)=Y at E hbb ⊢
 obtain⟨t0,t1,t2,t3⟩:=ai E
 simp at t0 t1 t2 t3
 exact bodyPost_ret (v:=H #[J #[B A 0,B A 0,C ⟨#[]⟩,F none 0 0],B A 2]) (by simp[results,Tryz.results114,go_sem,t0,t1,t2,t3]) rfl ⟨rfl,hbb⟩
theorem nH (n1 n2:Int) (s1 s2:ByteArray) (a1 a2:Option Addr) (l1 c1 l2 c2:Nat) (w:World) (hs:30<l1+l2) (hm:l1+l2≤9223372036854775807) :
 Calls Tryz.prog 79 #[C ⟨#[43]⟩,J #[B A 4,B A n1,C s1,F a1 l1 c1],J #[B A 4,B A n2,C s2,F a2 l2 c2]] w fun e w'=>e=I (H #[J #[B A 0,B A 0,C ⟨#[]⟩,F none 0 0],B A 2])∧Below w.heap.size w w':=by
 have HJ:Hid (∀U,Calls Tryz.prog 114 #[F a1 l1 c1,F a2 l2 c2] U fun e w'=>e=I (H #[J #[B A 0,B A 0,C ⟨#[]⟩,F none 0 0],B A 2])∧Below U.heap.size U w'):=fun U=>kp a1 a2 l1 c1 l2 c2 U hs hm
 have b0:Below w.heap.size w (((w.alloc (G #[B A 4,B A n1,C s1,F a1 l1 c1] 30)).alloc (G #[B A 4,B A n2,C s2,F a2 l2 c2] 30)).alloc (G #[B A 0,B A 0,C ⟨#[]⟩,F none 0 0] 30)):=(((M _ _).alloc (L _) _).alloc (by simp) _).alloc (by simp;omega) _
 have q3:=(three_alloc w (G #[B A 4,B A n1,C s1,F a1 l1 c1] 30) (G #[B A 4,B A n2,C s2,F a2 l2 c2] 30) (G #[B A 0,B A 0,C ⟨#[]⟩,F none 0 0] 30)).2.2
 have z0:(((w.alloc (G #[B A 4,B A n1,C s1,F a1 l1 c1] 30)).alloc (G #[B A 4,B A n2,C s2,F a2 l2 c2] 30)).alloc (G #[B A 0,B A 0,C ⟨#[]⟩,F none 0 0] 30)).heap.size=w.heap.size+3:=by simp
 have HB0:=aa b0
 have HQ3:=aa q3
 have HZ0:=aa z0
 clear b0 q3 z0
 go_enter Tryz.func79,Tryz.ntmps79
 go_wp2_with fail
 refine(HJ.out _).mono ?_
 generalize (((w.alloc (G #[B A 4,B A n1,C s1,F a1 l1 c1] 30)).alloc (G #[B A 4,B A n2,C s2,F a2 l2 c2] 30)).alloc (G #[B A 0,B A 0,C ⟨#[]⟩,F none 0 0] 30))=W at HB0 HQ3 HZ0 ⊢
 rintro e w1 ⟨rfl,k1⟩
 have hr:=(k1.block (w.heap.size+2) (by rw[HZ0.out];omega)).trans HQ3.out
 have HK:=aa (HB0.out.trans (k1.mono HB0.out.size))
 have HR:=aa hr
 obtain⟨r0,r1,r2,r3⟩:=ai hr
 obtain⟨f0,f1,f2,f3⟩:=aq hr
 simp at r0 r1 r2 r3
 have sz2:w.heap.size+2<w1.heap.size:=(Array.getElem?_eq_some_iff.1 hr).1
 clear hr k1
 go_wp2_with fail
 have E:=set4_here (b:=w.heap.size+1+1) HR.out (B A 0) (B A 0) (C ⟨#[]⟩) (F none 0 0)
 have hbb:Below w.heap.size w ((((w1.setCell ⟨w.heap.size+1+1,0,none⟩ (B A 0)).setCell ⟨w.heap.size+1+1,1,none⟩ (B A 0)).setCell ⟨w.heap.size+1+1,2,none⟩ (C ⟨#[]⟩)).setCell ⟨w.heap.size+1+1,3,none⟩ (F none 0 0)):=(((HK.out.setCell (p:=⟨w.heap.size+1+1,0,none⟩) (by show w.heap.size≤w.heap.size+1+1;omega) _).setCell (p:=⟨w.heap.size+1+1,1,none⟩) (by show w.heap.size≤w.heap.size+1+1;omega) _).setCell (p:=⟨w.heap.size+1+1,2,none⟩) (by show w.heap.size≤w.heap.size+1+1;omega) _).setCell (p:=⟨w.heap.size+1+1,3,none⟩) (by show w.heap.size≤w.heap.size+1+1;omega) _
 generalize ((((w1.setCell ⟨w.heap.size+1+1,0,none⟩ (B A 0)).setCell ⟨w.heap.size+1+1,1,none⟩ (B A 0)).setCell ⟨w.heap.size+1+1,2,none⟩ (C ⟨#[]⟩)).setCell ⟨w.heap.size+1+1,3,none⟩ (F none 0 0))=Y at E hbb ⊢
 obtain⟨t0,t1,t2,t3⟩:=ai E
 simp at t0 t1 t2 t3
 exact bodyPost_ret (v:=H #[J #[B A 0,B A 0,C ⟨#[]⟩,F none 0 0],B A 2]) (by simp[results,Tryz.results79,go_sem,t0,t1,t2,t3]) rfl ⟨rfl,hbb⟩
section
variable {P:Program} (w:World)
theorem jw (t ty:TypeId) (base:Nat) (e:TypeId) (i:TypeInfo) (z:Value) (size bytes:Nat) (ht:P.underlying t=some (.slice e)) (hi:P.info? e=some i) (hz:i.zero=some z)
 (hsize:i.size=size) (hby:i.bytes=bytes) (hzs:z.cells.size=size) (hsz:0<size)
 (v:Value) (n:Nat) (xs:List Value) (hown:w.ownsRow base e size v n xs)
 (ax:Option Addr) (m c:Nat) (news:List Value) (hl:news.length=m*size) (hnews:∀j u,news[j]? = some u→∃ad,ax=some ad∧w.cell? (ad.add j)=some u) (h1:∀u ∈ news,u.oneCell'=true)
 (h63:n+m≤maxLen) (hbytes:(n+m)*bytes≤140737488355328) (hbase:base≤w.heap.size) :
 ∃v' w',(Builtin.append_ #[t,t] ty #[v,F ax m c]).run P w = .ok v' w' ∧
  w'.ownsRow base e size v' (n+m) (xs++news)∧w.grownBy w' v.ownBlock∧(v'.ownBlock=v.ownBlock∨v'.ownBlock=some w.heap.size):=by
 cases ax with
 | some ad=>
   obtain⟨v',w',hr,h2,h3,_,h5⟩:=run_append_own_at (P:=P) w base t ty e i z size bytes ht hi hz hsize hby hzs hsz v n xs hown ad m c news hl (fun j u hu=>by
    obtain⟨ad',e1,e2⟩:=hnews j u hu
    cases e1
    exact e2) h1 h63 hbytes hbase
   exact⟨v',w',hr,h2,h3,h5⟩
 | none=>
   have hn:news = []:=by
    cases news with
    | nil=>rfl
    | cons u us=>
      obtain⟨_,e1,_⟩:=hnews 0 u rfl
      cases e1
   subst hn
   have hm:m=0:=by
    rcases Nat.eq_zero_or_pos m with h | h
    ·exact h
    ·have:=Nat.mul_pos h hsz
     simp at hl
     omega
   subst hm
   refine⟨v,w,?_,by simpa using hown,⟨rfl,rfl,rfl,L _,fun _ _ _=>rfl⟩,.inl rfl⟩
   rcases hown.2 with⟨rfl,rfl⟩ | ⟨g,cap,cur,rfl,_,_,hnc,_⟩
   ·simp[Builtin.append_,run_underlying ht,sizeOf,typeInfo,hi,Builtin.lenOf,Builtin.firstCells]
   ·simp[Builtin.append_,run_underlying ht,sizeOf,typeInfo,hi,Builtin.lenOf,Builtin.firstCells,hnc,storeCells]
end
section
variable {P:Program} (w:World)
theorem fR {o:Oper} {a:Act} {K:Act→World→Prop} {Q:Exit→Act→World→Prop} (s x:Operand) (t:TypeId)
 (ho:o.op = .call { callee:=.builtin .append,args:=#[s,x],argTypes:=#[t,t] })
 (base:Nat) (e:TypeId) (i:TypeInfo) (z:Value) (size bytes:Nat) (ht:P.underlying t=some (.slice e)) (hi:P.info? e=some i) (hz:i.zero=some z)
 (hsize:i.size=size) (hby:i.bytes=bytes) (hzs:z.cells.size=size) (hsz:0<size)
 (v:Value) (n:Nat) (xs:List Value) (hs:a.eval s=v) (hown:w.ownsRow base e size v n xs)
 (ax:Option Addr) (m c:Nat) (news:List Value) (hx:a.eval x=F ax m c) (hl:news.length=m*size) (hnews:∀j u,news[j]? = some u→∃ad,ax=some ad∧w.cell? (ad.add j)=some u) (h1:∀u ∈ news,u.oneCell'=true)
 (h63:n+m≤maxLen) (hbytes:(n+m)*bytes≤140737488355328) (hbase:base≤w.heap.size)
 (h:∀v' w',w'.ownsRow base e size v' (n+m) (xs++news)→w.grownBy w' v.ownBlock→(v'.ownBlock=v.ownBlock∨v'.ownBlock=some w.heap.size)→K (a.put o.dst v') w'):o.wp P a w K Q:=by
 obtain⟨v',w',hr,h2,h3,h4⟩:=jw (P:=P) w t o.type base e i z size bytes ht hi hz hsize hby hzs hsz v n xs hown ax m c news hl hnews h1 h63 hbytes hbase
 unfold Oper.wp execOp
 simp only[ho,resolve,invoke,builtin,Sem.run_bind,Sem.run_pure,Result.andThen_ok,List.map_toArray,List.map_cons,List.map_nil,hs,hx,hr]
 exact h v' w' h2 h3 h4
end
section
variable {P:Program} (w:World)
theorem eD {ops:Array Oper} {rest:List Oper} {o:Oper} {a:Act} {Q:Exit→Act→World→Prop} (hgd:o.guard=none) (s x:Operand) (t:TypeId)
 (ho:o.op = .call { callee:=.builtin .append,args:=#[s,x],argTypes:=#[t,t] })
 (base:Nat) (e:TypeId) (i:TypeInfo) (z:Value) (size bytes:Nat) (ht:P.underlying t=some (.slice e)) (hi:P.info? e=some i) (hz:i.zero=some z)
 (hsize:i.size=size) (hby:i.bytes=bytes) (hzs:z.cells.size=size) (hsz:0<size)
 (v:Value) (n:Nat) (xs:List Value) (hs:a.eval s=v) (hown:w.ownsRow base e size v n xs)
 (ax:Option Addr) (m c:Nat) (news:List Value) (hx:a.eval x=F ax m c) (hl:news.length=m*size) (hnews:∀j u,news[j]? = some u→∃ad,ax=some ad∧w.cell? (ad.add j)=some u) (h1:∀u ∈ news,u.oneCell'=true)
 (h63:n+m≤maxLen) (hbytes:(n+m)*bytes≤140737488355328) (hbase:base≤w.heap.size)
 (h:∀v' w',w'.ownsRow base e size v' (n+m) (xs++news)→w.grownBy w' v.ownBlock→(v'.ownBlock=v.ownBlock∨v'.ownBlock=some w.heap.size)→wpList P ops Q rest (a.put o.dst v') w'):wpList P ops Q (o::rest) a w:=
 wpList_plain hgd fun _ hK=>fR w s x t ho base e i z size bytes ht hi hz hsize hby hzs hsz v n xs hs hown ax m c news hx hl hnews h1 h63 hbytes hbase fun v' w' h2 h3 h4=>hK _ _ (h v' w' h2 h3 h4)
end
end Go.Proofs.YtijjpoohhgapoaaGreatDoor

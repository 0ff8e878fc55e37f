import Derived.Test.YtijjpoohhgapoaaGreatDoorVQAO
namespace Go.Proofs.YtijjpoohhgapoaaGreatDoor
open Go.RowKit
set_option linter.unusedVariables false
set_option maxHeartbeats 2000000
set_option maxRecDepth 100000
open IntKind renaming i64 → A
open Value renaming string → B, int → C, slice → D, tuple → H, agg → I
open Obj renaming cells → F
open Nat renaming le_refl → G
open RowKit.Below renaming refl → J
open Ending renaming returned → K
theorem uF (sign:ByteArray) (k1 k2:Int) (n1 n2:Int) (s1 s2:ByteArray) (a1 a2:Option Addr) (l1 c1 l2 c2:Nat) (w:World) (h1:(sign.toList == [43])=false) (h2:(sign.toList == [45])=false) (h3:(sign.toList == [42])=false) :
 Calls Tryz.prog 79 #[B sign,I #[C A k1,C A n1,B s1,D a1 l1 c1],I #[C A k2,C A n2,B s2,D a2 l2 c2]] w fun e w'=>e=K (H #[I #[C A 0,C A 0,B ⟨#[]⟩,D none 0 0],C A 5])∧Below w.heap.size w w':=by
 go_enter Tryz.func79,Tryz.ntmps79
 go_wp2_with fail
 have E:=(three_alloc w (F #[C A k1,C A n1,B s1,D a1 l1 c1] 30) (F #[C A k2,C A n2,B s2,D a2 l2 c2] 30) (F #[C A 0,C A 0,B ⟨#[]⟩,D none 0 0] 30)).2.2
 have hbb:Below w.heap.size w (((w.alloc (F #[C A k1,C A n1,B s1,D a1 l1 c1] 30)).alloc (F #[C A k2,C A n2,B s2,D a2 l2 c2] 30)).alloc (F #[C A 0,C A 0,B ⟨#[]⟩,D none 0 0] 30)):=(((J _ _).alloc (G _) _).alloc (by simp) _).alloc (by simp;omega) _
 generalize (((w.alloc (F #[C A k1,C A n1,B s1,D a1 l1 c1] 30)).alloc (F #[C A k2,C A n2,B s2,D a2 l2 c2] 30)).alloc (F #[C A 0,C A 0,B ⟨#[]⟩,D none 0 0] 30))=Y at E hbb ⊢
 obtain⟨t0,t1,t2,t3⟩:=ai (b:=w.heap.size+1+1) E
 simp at t0 t1 t2 t3
 exact bodyPost_ret (v:=H #[I #[C A 0,C A 0,B ⟨#[]⟩,D none 0 0],C A 5]) (by simp[results,Tryz.results79,go_sem,t0,t1,t2,t3]) rfl ⟨rfl,hbb⟩
theorem jz (k1 k2:Int) (n1 n2:Int) (s1 s2:ByteArray) (a1 a2:Option Addr) (l1 c1 l2 c2:Nat) (w:World) (h:k1=0∨k2=0) :
 Calls Tryz.prog 79 #[B ⟨#[43]⟩,I #[C A k1,C A n1,B s1,D a1 l1 c1],I #[C A k2,C A n2,B s2,D a2 l2 c2]] w fun e w'=>e=K (H #[I #[C A 0,C A 0,B ⟨#[]⟩,D none 0 0],C A 0])∧Below w.heap.size w w':=by
 by_cases h1:k1=0
 ·subst h1
  clear h
  go_enter Tryz.func79,Tryz.ntmps79
  go_wp2_with fail
  have E:=(three_alloc w (F #[C A 0,C A n1,B s1,D a1 l1 c1] 30) (F #[C A k2,C A n2,B s2,D a2 l2 c2] 30) (F #[C A 0,C A 0,B ⟨#[]⟩,D none 0 0] 30)).2.2
  have hbb:Below w.heap.size w (((w.alloc (F #[C A 0,C A n1,B s1,D a1 l1 c1] 30)).alloc (F #[C A k2,C A n2,B s2,D a2 l2 c2] 30)).alloc (F #[C A 0,C A 0,B ⟨#[]⟩,D none 0 0] 30)):=(((J _ _).alloc (G _) _).alloc (by simp) _).alloc (by simp;omega) _
  generalize (((w.alloc (F #[C A 0,C A n1,B s1,D a1 l1 c1] 30)).alloc (F #[C A k2,C A n2,B s2,D a2 l2 c2] 30)).alloc (F #[C A 0,C A 0,B ⟨#[]⟩,D none 0 0] 30))=Y at E hbb ⊢
  obtain⟨t0,t1,t2,t3⟩:=ai (b:=w.heap.size+1+1) E
  simp at t0 t1 t2 t3
  exact bodyPost_ret (v:=H #[I #[C A 0,C A 0,B ⟨#[]⟩,D none 0 0],C A 0]) (by simp[results,Tryz.results79,go_sem,t0,t1,t2,t3]) rfl ⟨rfl,hbb⟩
 ·have h2:k2=0:=h.resolve_left h1
  subst h2
  have h1':(k1==0)=false:=by simp[h1]
  clear h
  go_enter Tryz.func79,Tryz.ntmps79
  go_wp2_with fail
  have E:=(three_alloc w (F #[C A k1,C A n1,B s1,D a1 l1 c1] 30) (F #[C A 0,C A n2,B s2,D a2 l2 c2] 30) (F #[C A 0,C A 0,B ⟨#[]⟩,D none 0 0] 30)).2.2
  have hbb:Below w.heap.size w (((w.alloc (F #[C A k1,C A n1,B s1,D a1 l1 c1] 30)).alloc (F #[C A 0,C A n2,B s2,D a2 l2 c2] 30)).alloc (F #[C A 0,C A 0,B ⟨#[]⟩,D none 0 0] 30)):=(((J _ _).alloc (G _) _).alloc (by simp) _).alloc (by simp;omega) _
  generalize (((w.alloc (F #[C A k1,C A n1,B s1,D a1 l1 c1] 30)).alloc (F #[C A 0,C A n2,B s2,D a2 l2 c2] 30)).alloc (F #[C A 0,C A 0,B ⟨#[]⟩,D none 0 0] 30))=Y at E hbb ⊢
  obtain⟨t0,t1,t2,t3⟩:=ai (b:=w.heap.size+1+1) E
  simp at t0 t1 t2 t3
  exact bodyPost_ret (v:=H #[I #[C A 0,C A 0,B ⟨#[]⟩,D none 0 0],C A 0]) (by simp[results,Tryz.results79,go_sem,t0,t1,t2,t3]) rfl ⟨rfl,hbb⟩
theorem jC (k1 k2:Int) (n1 n2:Int) (s1 s2:ByteArray) (a1 a2:Option Addr) (l1 c1 l2 c2:Nat) (w:World) (h1:k1≠0) (h2:k2≠0) (h3:¬(k1=2∧k2=2)) (h4:k1≠k2∨(k1≠3∧k1≠4)) :
 Calls Tryz.prog 79 #[B ⟨#[43]⟩,I #[C A k1,C A n1,B s1,D a1 l1 c1],I #[C A k2,C A n2,B s2,D a2 l2 c2]] w fun e w'=>e=K (H #[I #[C A 0,C A 0,B ⟨#[]⟩,D none 0 0],C A 3])∧Below w.heap.size w w':=by
 have h1':(k1==0)=false:=by simp[h1]
 have h2':(k2==0)=false:=by simp[h2]
 by_cases h5:k1=k2
 ·subst h5
  have h7:(k1==2)=false:=by simp;omega
  have h6:k1≠3∧k1≠4:=h4.resolve_left (fun h=>h rfl)
  have h8:(k1==3)=false:=by simp[h6.1]
  have h9:(k1==4)=false:=by simp[h6.2]
  clear h1 h2 h3 h4 h6
  go_enter Tryz.func79,Tryz.ntmps79
  go_wp2_with fail
  have E:=(three_alloc w (F #[C A k1,C A n1,B s1,D a1 l1 c1] 30) (F #[C A k1,C A n2,B s2,D a2 l2 c2] 30) (F #[C A 0,C A 0,B ⟨#[]⟩,D none 0 0] 30)).2.2
  have hbb:Below w.heap.size w (((w.alloc (F #[C A k1,C A n1,B s1,D a1 l1 c1] 30)).alloc (F #[C A k1,C A n2,B s2,D a2 l2 c2] 30)).alloc (F #[C A 0,C A 0,B ⟨#[]⟩,D none 0 0] 30)):=(((J _ _).alloc (G _) _).alloc (by simp) _).alloc (by simp;omega) _
  generalize (((w.alloc (F #[C A k1,C A n1,B s1,D a1 l1 c1] 30)).alloc (F #[C A k1,C A n2,B s2,D a2 l2 c2] 30)).alloc (F #[C A 0,C A 0,B ⟨#[]⟩,D none 0 0] 30))=Y at E hbb ⊢
  obtain⟨t0,t1,t2,t3⟩:=ai (b:=w.heap.size+1+1) E
  simp at t0 t1 t2 t3
  exact bodyPost_ret (v:=H #[I #[C A 0,C A 0,B ⟨#[]⟩,D none 0 0],C A 3]) (by simp[results,Tryz.results79,go_sem,t0,t1,t2,t3]) rfl ⟨rfl,hbb⟩
 ·have h6:(k1 != k2)=true:=by simp[h5]
  clear h1 h2 h3 h5 h4
  go_enter Tryz.func79,Tryz.ntmps79
  go_wp2_with fail
  have E:=(three_alloc w (F #[C A k1,C A n1,B s1,D a1 l1 c1] 30) (F #[C A k2,C A n2,B s2,D a2 l2 c2] 30) (F #[C A 0,C A 0,B ⟨#[]⟩,D none 0 0] 30)).2.2
  have hbb:Below w.heap.size w (((w.alloc (F #[C A k1,C A n1,B s1,D a1 l1 c1] 30)).alloc (F #[C A k2,C A n2,B s2,D a2 l2 c2] 30)).alloc (F #[C A 0,C A 0,B ⟨#[]⟩,D none 0 0] 30)):=(((J _ _).alloc (G _) _).alloc (by simp) _).alloc (by simp;omega) _
  generalize (((w.alloc (F #[C A k1,C A n1,B s1,D a1 l1 c1] 30)).alloc (F #[C A k2,C A n2,B s2,D a2 l2 c2] 30)).alloc (F #[C A 0,C A 0,B ⟨#[]⟩,D none 0 0] 30))=Y at E hbb ⊢
  obtain⟨t0,t1,t2,t3⟩:=ai (b:=w.heap.size+1+1) E
  simp at t0 t1 t2 t3
  exact bodyPost_ret (v:=H #[I #[C A 0,C A 0,B ⟨#[]⟩,D none 0 0],C A 3]) (by simp[results,Tryz.results79,go_sem,t0,t1,t2,t3]) rfl ⟨rfl,hbb⟩
theorem jx (k1 k2:Int) (n1 n2:Int) (s1 s2:ByteArray) (a1 a2:Option Addr) (l1 c1 l2 c2:Nat) (w:World) (h:k1=0∨k2=0) :
 Calls Tryz.prog 79 #[B ⟨#[45]⟩,I #[C A k1,C A n1,B s1,D a1 l1 c1],I #[C A k2,C A n2,B s2,D a2 l2 c2]] w fun e w'=>e=K (H #[I #[C A 0,C A 0,B ⟨#[]⟩,D none 0 0],C A 0])∧Below w.heap.size w w':=by
 by_cases h1:k1=0
 ·subst h1
  clear h
  go_enter Tryz.func79,Tryz.ntmps79
  go_wp2_with fail
  have E:=(three_alloc w (F #[C A 0,C A n1,B s1,D a1 l1 c1] 30) (F #[C A k2,C A n2,B s2,D a2 l2 c2] 30) (F #[C A 0,C A 0,B ⟨#[]⟩,D none 0 0] 30)).2.2
  have hbb:Below w.heap.size w (((w.alloc (F #[C A 0,C A n1,B s1,D a1 l1 c1] 30)).alloc (F #[C A k2,C A n2,B s2,D a2 l2 c2] 30)).alloc (F #[C A 0,C A 0,B ⟨#[]⟩,D none 0 0] 30)):=(((J _ _).alloc (G _) _).alloc (by simp) _).alloc (by simp;omega) _
  generalize (((w.alloc (F #[C A 0,C A n1,B s1,D a1 l1 c1] 30)).alloc (F #[C A k2,C A n2,B s2,D a2 l2 c2] 30)).alloc (F #[C A 0,C A 0,B ⟨#[]⟩,D none 0 0] 30))=Y at E hbb ⊢
  obtain⟨t0,t1,t2,t3⟩:=ai (b:=w.heap.size+1+1) E
  simp at t0 t1 t2 t3
  exact bodyPost_ret (v:=H #[I #[C A 0,C A 0,B ⟨#[]⟩,D none 0 0],C A 0]) (by simp[results,Tryz.results79,go_sem,t0,t1,t2,t3]) rfl ⟨rfl,hbb⟩
 ·have h2:k2=0:=h.resolve_left h1
  subst h2
  have h1':(k1==0)=false:=by simp[h1]
  clear h
  go_enter Tryz.func79,Tryz.ntmps79
  go_wp2_with fail
  have E:=(three_alloc w (F #[C A k1,C A n1,B s1,D a1 l1 c1] 30) (F #[C A 0,C A n2,B s2,D a2 l2 c2] 30) (F #[C A 0,C A 0,B ⟨#[]⟩,D none 0 0] 30)).2.2
  have hbb:Below w.heap.size w (((w.alloc (F #[C A k1,C A n1,B s1,D a1 l1 c1] 30)).alloc (F #[C A 0,C A n2,B s2,D a2 l2 c2] 30)).alloc (F #[C A 0,C A 0,B ⟨#[]⟩,D none 0 0] 30)):=(((J _ _).alloc (G _) _).alloc (by simp) _).alloc (by simp;omega) _
  generalize (((w.alloc (F #[C A k1,C A n1,B s1,D a1 l1 c1] 30)).alloc (F #[C A 0,C A n2,B s2,D a2 l2 c2] 30)).alloc (F #[C A 0,C A 0,B ⟨#[]⟩,D none 0 0] 30))=Y at E hbb ⊢
  obtain⟨t0,t1,t2,t3⟩:=ai (b:=w.heap.size+1+1) E
  simp at t0 t1 t2 t3
  exact bodyPost_ret (v:=H #[I #[C A 0,C A 0,B ⟨#[]⟩,D none 0 0],C A 0]) (by simp[results,Tryz.results79,go_sem,t0,t1,t2,t3]) rfl ⟨rfl,hbb⟩
theorem jA (k1 k2:Int) (n1 n2:Int) (s1 s2:ByteArray) (a1 a2:Option Addr) (l1 c1 l2 c2:Nat) (w:World) (h1:k1≠0) (h2:k2≠0) (h3:¬(k1=2∧k2=2)) :
 Calls Tryz.prog 79 #[B ⟨#[45]⟩,I #[C A k1,C A n1,B s1,D a1 l1 c1],I #[C A k2,C A n2,B s2,D a2 l2 c2]] w fun e w'=>e=K (H #[I #[C A 0,C A 0,B ⟨#[]⟩,D none 0 0],C A 3])∧Below w.heap.size w w':=by
 have h1':(k1==0)=false:=by simp[h1]
 have h2':(k2==0)=false:=by simp[h2]
 by_cases h5:k1=k2
 ·subst h5
  have h7:(k1==2)=false:=by simp;omega
  clear h1 h2 h3
  by_cases h8:k1=3
  ·subst h8
   go_enter Tryz.func79,Tryz.ntmps79
   go_wp2_with fail
   have E:=(three_alloc w (F #[C A 3,C A n1,B s1,D a1 l1 c1] 30) (F #[C A 3,C A n2,B s2,D a2 l2 c2] 30) (F #[C A 0,C A 0,B ⟨#[]⟩,D none 0 0] 30)).2.2
   have hbb:Below w.heap.size w (((w.alloc (F #[C A 3,C A n1,B s1,D a1 l1 c1] 30)).alloc (F #[C A 3,C A n2,B s2,D a2 l2 c2] 30)).alloc (F #[C A 0,C A 0,B ⟨#[]⟩,D none 0 0] 30)):=(((J _ _).alloc (G _) _).alloc (by simp) _).alloc (by simp;omega) _
   generalize (((w.alloc (F #[C A 3,C A n1,B s1,D a1 l1 c1] 30)).alloc (F #[C A 3,C A n2,B s2,D a2 l2 c2] 30)).alloc (F #[C A 0,C A 0,B ⟨#[]⟩,D none 0 0] 30))=Y at E hbb ⊢
   obtain⟨t0,t1,t2,t3⟩:=ai (b:=w.heap.size+1+1) E
   simp at t0 t1 t2 t3
   exact bodyPost_ret (v:=H #[I #[C A 0,C A 0,B ⟨#[]⟩,D none 0 0],C A 3]) (by simp[results,Tryz.results79,go_sem,t0,t1,t2,t3]) rfl ⟨rfl,hbb⟩
  ·have h8':(k1==3)=false:=by simp[h8]
   by_cases h9:k1=4
   ·subst h9
    go_enter Tryz.func79,Tryz.ntmps79
    go_wp2_with fail
    have E:=(three_alloc w (F #[C A 4,C A n1,B s1,D a1 l1 c1] 30) (F #[C A 4,C A n2,B s2,D a2 l2 c2] 30) (F #[C A 0,C A 0,B ⟨#[]⟩,D none 0 0] 30)).2.2
    have hbb:Below w.heap.size w (((w.alloc (F #[C A 4,C A n1,B s1,D a1 l1 c1] 30)).alloc (F #[C A 4,C A n2,B s2,D a2 l2 c2] 30)).alloc (F #[C A 0,C A 0,B ⟨#[]⟩,D none 0 0] 30)):=(((J _ _).alloc (G _) _).alloc (by simp) _).alloc (by simp;omega) _
    generalize (((w.alloc (F #[C A 4,C A n1,B s1,D a1 l1 c1] 30)).alloc (F #[C A 4,C A n2,B s2,D a2 l2 c2] 30)).alloc (F #[C A 0,C A 0,B ⟨#[]⟩,D none 0 0] 30))=Y at E hbb ⊢
    obtain⟨t0,t1,t2,t3⟩:=ai (b:=w.heap.size+1+1) E
    simp at t0 t1 t2 t3
    exact bodyPost_ret (v:=H #[I #[C A 0,C A 0,B ⟨#[]⟩,D none 0 0],C A 3]) (by simp[results,Tryz.results79,go_sem,t0,t1,t2,t3]) rfl ⟨rfl,hbb⟩
   ·have h9':(k1==4)=false:=by simp[h9]
    clear h8 h9
    go_enter Tryz.func79,Tryz.ntmps79
    go_wp2_with fail
    have E:=(three_alloc w (F #[C A k1,C A n1,B s1,D a1 l1 c1] 30) (F #[C A k1,C A n2,B s2,D a2 l2 c2] 30) (F #[C A 0,C A 0,B ⟨#[]⟩,D none 0 0] 30)).2.2
    have hbb:Below w.heap.size w (((w.alloc (F #[C A k1,C A n1,B s1,D a1 l1 c1] 30)).alloc (F #[C A k1,C A n2,B s2,D a2 l2 c2] 30)).alloc (F #[C A 0,C A 0,B ⟨#[]⟩,D none 0 0] 30)):=(((J _ _).alloc (G _) _).alloc (by simp) _).alloc (by simp;omega) _
    generalize (((w.alloc (F #[C A k1,C A n1,B s1,D a1 l1 c1] 30)).alloc (F #[C A k1,C A n2,B s2,D a2 l2 c2] 30)).alloc (F #[C A 0,C A 0,B ⟨#[]⟩,D none 0 0] 30))=Y at E hbb ⊢
    obtain⟨t0,t1,t2,t3⟩:=ai (b:=w.heap.size+1+1) E
    simp at t0 t1 t2 t3
    exact bodyPost_ret (v:=H #[I #[C A 0,C A 0,B ⟨#[]⟩,D none 0 0],C A 3]) (by simp[results,Tryz.results79,go_sem,t0,t1,t2,t3]) rfl ⟨rfl,hbb⟩
 ·have h6:(k1 != k2)=true:=by simp[h5]
  clear h1 h2 h3 h5
  go_enter Tryz.func79,Tryz.ntmps79
  go_wp2_with fail
  have E:=(three_alloc w (F #[C A k1,C A n1,B s1,D a1 l1 c1] 30) (F #[C A k2,C A n2,B s2,D a2 l2 c2] 30) (F #[C A 0,C A 0,B ⟨#[]⟩,D none 0 0] 30)).2.2
  have hbb:Below w.heap.size w (((w.alloc (F #[C A k1,C A n1,B s1,D a1 l1 c1] 30)).alloc (F #[C A k2,C A n2,B s2,D a2 l2 c2] 30)).alloc (F #[C A 0,C A 0,B ⟨#[]⟩,D none 0 0] 30)):=(((J _ _).alloc (G _) _).alloc (by simp) _).alloc (by simp;omega) _
  generalize (((w.alloc (F #[C A k1,C A n1,B s1,D a1 l1 c1] 30)).alloc (F #[C A k2,C A n2,B s2,D a2 l2 c2] 30)).alloc (F #[C A 0,C A 0,B ⟨#[]⟩,D none 0 0] 30))=Y at E hbb ⊢
  obtain⟨t0,t1,t2,t3⟩:=ai (b:=w.heap.size+1+1) E
  simp at t0 t1 t2 t3
  exact bodyPost_ret (v:=H #[I #[C A 0,C A 0,B ⟨#[]⟩,D none 0 0],C A 3]) (by simp[results,Tryz.results79,go_sem,t0,t1,t2,t3]) rfl ⟨rfl,hbb⟩
theorem jy (k1 k2:Int) (n1 n2:Int) (s1 s2:ByteArray) (a1 a2:Option Addr) (l1 c1 l2 c2:Nat) (w:World) (h:k1=0∨k2=0) :
 Calls Tryz.prog 79 #[B ⟨#[42]⟩,I #[C A k1,C A n1,B s1,D a1 l1 c1],I #[C A k2,C A n2,B s2,D a2 l2 c2]] w fun e w'=>e=K (H #[I #[C A 0,C A 0,B ⟨#[]⟩,D none 0 0],C A 0])∧Below w.heap.size w w':=by
 by_cases h1:k1=0
 ·subst h1
  clear h
  go_enter Tryz.func79,Tryz.ntmps79
  go_wp2_with fail
  have E:=(three_alloc w (F #[C A 0,C A n1,B s1,D a1 l1 c1] 30) (F #[C A k2,C A n2,B s2,D a2 l2 c2] 30) (F #[C A 0,C A 0,B ⟨#[]⟩,D none 0 0] 30)).2.2
  have hbb:Below w.heap.size w (((w.alloc (F #[C A 0,C A n1,B s1,D a1 l1 c1] 30)).alloc (F #[C A k2,C A n2,B s2,D a2 l2 c2] 30)).alloc (F #[C A 0,C A 0,B ⟨#[]⟩,D none 0 0] 30)):=(((J _ _).alloc (G _) _).alloc (by simp) _).alloc (by simp;omega) _
  generalize (((w.alloc (F #[C A 0,C A n1,B s1,D a1 l1 c1] 30)).alloc (F #[C A k2,C A n2,B s2,D a2 l2 c2] 30)).alloc (F #[C A 0,C A 0,B ⟨#[]⟩,D none 0 0] 30))=Y at E hbb ⊢
  obtain⟨t0,t1,t2,t3⟩:=ai (b:=w.heap.size+1+1) E
  simp at t0 t1 t2 t3
  exact bodyPost_ret (v:=H #[I #[C A 0,C A 0,B ⟨#[]⟩,D none 0 0],C A 0]) (by simp[results,Tryz.results79,go_sem,t0,t1,t2,t3]) rfl ⟨rfl,hbb⟩
 ·have h2:k2=0:=h.resolve_left h1
  subst h2
  have h1':(k1==0)=false:=by simp[h1]
  clear h
  go_enter Tryz.func79,Tryz.ntmps79
  go_wp2_with fail
  have E:=(three_alloc w (F #[C A k1,C A n1,B s1,D a1 l1 c1] 30) (F #[C A 0,C A n2,B s2,D a2 l2 c2] 30) (F #[C A 0,C A 0,B ⟨#[]⟩,D none 0 0] 30)).2.2
  have hbb:Below w.heap.size w (((w.alloc (F #[C A k1,C A n1,B s1,D a1 l1 c1] 30)).alloc (F #[C A 0,C A n2,B s2,D a2 l2 c2] 30)).alloc (F #[C A 0,C A 0,B ⟨#[]⟩,D none 0 0] 30)):=(((J _ _).alloc (G _) _).alloc (by simp) _).alloc (by simp;omega) _
  generalize (((w.alloc (F #[C A k1,C A n1,B s1,D a1 l1 c1] 30)).alloc (F #[C A 0,C A n2,B s2,D a2 l2 c2] 30)).alloc (F #[C A 0,C A 0,B ⟨#[]⟩,D none 0 0] 30))=Y at E hbb ⊢
  obtain⟨t0,t1,t2,t3⟩:=ai (b:=w.heap.size+1+1) E
  simp at t0 t1 t2 t3
  exact bodyPost_ret (v:=H #[I #[C A 0,C A 0,B ⟨#[]⟩,D none 0 0],C A 0]) (by simp[results,Tryz.results79,go_sem,t0,t1,t2,t3]) rfl ⟨rfl,hbb⟩
theorem jB (k1 k2:Int) (n1 n2:Int) (s1 s2:ByteArray) (a1 a2:Option Addr) (l1 c1 l2 c2:Nat) (w:World) (h1:k1≠0) (h2:k2≠0) (h3:¬(k1=2∧k2=2)) :
 Calls Tryz.prog 79 #[B ⟨#[42]⟩,I #[C A k1,C A n1,B s1,D a1 l1 c1],I #[C A k2,C A n2,B s2,D a2 l2 c2]] w fun e w'=>e=K (H #[I #[C A 0,C A 0,B ⟨#[]⟩,D none 0 0],C A 3])∧Below w.heap.size w w':=by
 have h1':(k1==0)=false:=by simp[h1]
 have h2':(k2==0)=false:=by simp[h2]
 by_cases h5:k1=k2
 ·subst h5
  have h7:(k1==2)=false:=by simp;omega
  clear h1 h2 h3
  by_cases h8:k1=3
  ·subst h8
   go_enter Tryz.func79,Tryz.ntmps79
   go_wp2_with fail
   have E:=(three_alloc w (F #[C A 3,C A n1,B s1,D a1 l1 c1] 30) (F #[C A 3,C A n2,B s2,D a2 l2 c2] 30) (F #[C A 0,C A 0,B ⟨#[]⟩,D none 0 0] 30)).2.2
   have hbb:Below w.heap.size w (((w.alloc (F #[C A 3,C A n1,B s1,D a1 l1 c1] 30)).alloc (F #[C A 3,C A n2,B s2,D a2 l2 c2] 30)).alloc (F #[C A 0,C A 0,B ⟨#[]⟩,D none 0 0] 30)):=(((J _ _).alloc (G _) _).alloc (by simp) _).alloc (by simp;omega) _
   generalize (((w.alloc (F #[C A 3,C A n1,B s1,D a1 l1 c1] 30)).alloc (F #[C A 3,C A n2,B s2,D a2 l2 c2] 30)).alloc (F #[C A 0,C A 0,B ⟨#[]⟩,D none 0 0] 30))=Y at E hbb ⊢
   obtain⟨t0,t1,t2,t3⟩:=ai (b:=w.heap.size+1+1) E
   simp at t0 t1 t2 t3
   exact bodyPost_ret (v:=H #[I #[C A 0,C A 0,B ⟨#[]⟩,D none 0 0],C A 3]) (by simp[results,Tryz.results79,go_sem,t0,t1,t2,t3]) rfl ⟨rfl,hbb⟩
  ·have h8':(k1==3)=false:=by simp[h8]
   by_cases h9:k1=4
   ·subst h9
    go_enter Tryz.func79,Tryz.ntmps79
    go_wp2_with fail
    have E:=(three_alloc w (F #[C A 4,C A n1,B s1,D a1 l1 c1] 30) (F #[C A 4,C A n2,B s2,D a2 l2 c2] 30) (F #[C A 0,C A 0,B ⟨#[]⟩,D none 0 0] 30)).2.2
    have hbb:Below w.heap.size w (((w.alloc (F #[C A 4,C A n1,B s1,D a1 l1 c1] 30)).alloc (F #[C A 4,C A n2,B s2,D a2 l2 c2] 30)).alloc (F #[C A 0,C A 0,B ⟨#[]⟩,D none 0 0] 30)):=(((J _ _).alloc (G _) _).alloc (by simp) _).alloc (by simp;omega) _
    generalize (((w.alloc (F #[C A 4,C A n1,B s1,D a1 l1 c1] 30)).alloc (F #[C A 4,C A n2,B s2,D a2 l2 c2] 30)).alloc (F #[C A 0,C A 0,B ⟨#[]⟩,D none 0 0] 30))=Y at E hbb ⊢
    obtain⟨t0,t1,t2,t3⟩:=ai (b:=w.heap.size+1+1) E
    simp at t0 t1 t2 t3
    exact bodyPost_ret (v:=H #[I #[C A 0,C A 0,B ⟨#[]⟩,D none 0 0],C A 3]) (by simp[results,Tryz.results79,go_sem,t0,t1,t2,t3]) rfl ⟨rfl,hbb⟩
   ·have h9':(k1==4)=false:=by simp[h9]
    clear h8 h9
    go_enter Tryz.func79,Tryz.ntmps79
    go_wp2_with fail
    have E:=(three_alloc w (F #[C A k1,C A n1,B s1,D a1 l1 c1] 30) (F #[C A k1,C A n2,B s2,D a2 l2 c2] 30) (F #[C A 0,C A 0,B ⟨#[]⟩,D none 0 0] 30)).2.2
    have hbb:Below w.heap.size w (((w.alloc (F #[C A k1,C A n1,B s1,D a1 l1 c1] 30)).alloc (F #[C A k1,C A n2,B s2,D a2 l2 c2] 30)).alloc (F #[C A 0,C A 0,B ⟨#[]⟩,D none 0 0] 30)):=(((J _ _).alloc (G _) _).alloc (by simp) _).alloc (by simp;omega) _
    generalize (((w.alloc (F #[C A k1,C A n1,B s1,D a1 l1 c1] 30)).alloc (F #[C A k1,C A n2,B s2,D a2 l2 c2] 30)).alloc (F #[C A 0,C A 0,B ⟨#[]⟩,D none 0 0] 30))=Y at E hbb ⊢
    obtain⟨t0,t1,t2,t3⟩:=ai (b:=w.heap.size+1+1) E
    simp at t0 t1 t2 t3
    exact bodyPost_ret (v:=H #[I #[C A 0,C A 0,B ⟨#[]⟩,D none 0 0],C A 3]) (by simp[results,Tryz.results79,go_sem,t0,t1,t2,t3]) rfl ⟨rfl,hbb⟩
 ·have h6:(k1 != k2)=true:=by simp[h5]
  clear h1 h2 h3 h5
  go_enter Tryz.func79,Tryz.ntmps79
  go_wp2_with fail
  have E:=(three_alloc w (F #[C A k1,C A n1,B s1,D a1 l1 c1] 30) (F #[C A k2,C A n2,B s2,D a2 l2 c2] 30) (F #[C A 0,C A 0,B ⟨#[]⟩,D none 0 0] 30)).2.2
  have hbb:Below w.heap.size w (((w.alloc (F #[C A k1,C A n1,B s1,D a1 l1 c1] 30)).alloc (F #[C A k2,C A n2,B s2,D a2 l2 c2] 30)).alloc (F #[C A 0,C A 0,B ⟨#[]⟩,D none 0 0] 30)):=(((J _ _).alloc (G _) _).alloc (by simp) _).alloc (by simp;omega) _
  generalize (((w.alloc (F #[C A k1,C A n1,B s1,D a1 l1 c1] 30)).alloc (F #[C A k2,C A n2,B s2,D a2 l2 c2] 30)).alloc (F #[C A 0,C A 0,B ⟨#[]⟩,D none 0 0] 30))=Y at E hbb ⊢
  obtain⟨t0,t1,t2,t3⟩:=ai (b:=w.heap.size+1+1) E
  simp at t0 t1 t2 t3
  exact bodyPost_ret (v:=H #[I #[C A 0,C A 0,B ⟨#[]⟩,D none 0 0],C A 3]) (by simp[results,Tryz.results79,go_sem,t0,t1,t2,t3]) rfl ⟨rfl,hbb⟩
theorem jF (s1 s2:ByteArray) (w:World) (hs:s1.size+s2.size≤4000) :
 Calls Tryz.prog 113 #[B s1,B s2] w fun e w'=>e=K (H #[I #[C A 3,C A 0,B (s1++s2),D none 0 0],C A 0])∧Below w.heap.size w w':=by
 have hs1:¬((4000:Int)<(s1.size:Int)+(s2.size:Int)):=by omega
 go_enter Tryz.func113,Tryz.ntmps113
 go_wp2_with fail
 have E:=ae w (F #[C A 3,C A 0,B (s1++s2),D none 0 0] 30)
 have hbb:Below w.heap.size w (w.alloc (F #[C A 3,C A 0,B (s1++s2),D none 0 0] 30)):=(J _ _).alloc (G _) _
 generalize w.alloc (F #[C A 3,C A 0,B (s1++s2),D none 0 0] 30)=Y at E hbb ⊢
 obtain⟨t0,t1,t2,t3⟩:=ai E
 simp at t0 t1 t2 t3
 exact bodyPost_ret (v:=H #[I #[C A 3,C A 0,B (s1++s2),D none 0 0],C A 0]) (by simp[results,Tryz.results113,go_sem,t0,t1,t2,t3]) rfl ⟨rfl,hbb⟩
theorem ko (s1 s2:ByteArray) (w:World) (hs:4000<s1.size+s2.size) (hm:s1.size+s2.size≤9223372036854775807) :
 Calls Tryz.prog 113 #[B s1,B s2] w fun e w'=>e=K (H #[I #[C A 0,C A 0,B ⟨#[]⟩,D none 0 0],C A 2])∧Below w.heap.size w w':=by
 have hs1:(4000:Int)<(s1.size:Int)+(s2.size:Int):=by omega
 go_enter Tryz.func113,Tryz.ntmps113
 go_wp2_with fail
 have E:=ae w (F #[C A 0,C A 0,B ⟨#[]⟩,D none 0 0] 30)
 have hbb:Below w.heap.size w (w.alloc (F #[C A 0,C A 0,B ⟨#[]⟩,D none 0 0] 30)):=(J _ _).alloc (G _) _
 generalize w.alloc (F #[C A 0,C A 0,B ⟨#[]⟩,D none 0 0] 30)=Y at E hbb ⊢
 obtain⟨t0,t1,t2,t3⟩:=ai E
 simp at t0 t1 t2 t3
 exact bodyPost_ret (v:=H #[I #[C A 0,C A 0,B ⟨#[]⟩,D none 0 0],C A 2]) (by simp[results,Tryz.results113,go_sem,t0,t1,t2,t3]) rfl ⟨rfl,hbb⟩
theorem nG (n1 n2:Int) (s1 s2:ByteArray) (a1 a2:Option Addr) (l1 c1 l2 c2:Nat) (w:World) (hs:s1.size+s2.size≤4000) :
 Calls Tryz.prog 79 #[B ⟨#[43]⟩,I #[C A 3,C A n1,B s1,D a1 l1 c1],I #[C A 3,C A n2,B s2,D a2 l2 c2]] w fun e w'=>e=K (H #[I #[C A 3,C A 0,B (s1++s2),D none 0 0],C A 0])∧Below w.heap.size w w':=by
 have HJ:Hid (∀U,Calls Tryz.prog 113 #[B s1,B s2] U fun e w'=>e=K (H #[I #[C A 3,C A 0,B (s1++s2),D none 0 0],C A 0])∧Below U.heap.size U w'):=fun U=>jF s1 s2 U hs
 have b0:Below w.heap.size w (((w.alloc (F #[C A 3,C A n1,B s1,D a1 l1 c1] 30)).alloc (F #[C A 3,C A n2,B s2,D a2 l2 c2] 30)).alloc (F #[C A 0,C A 0,B ⟨#[]⟩,D none 0 0] 30)):=(((J _ _).alloc (G _) _).alloc (by simp) _).alloc (by simp;omega) _
 have q3:=(three_alloc w (F #[C A 3,C A n1,B s1,D a1 l1 c1] 30) (F #[C A 3,C A n2,B s2,D a2 l2 c2] 30) (F #[C A 0,C A 0,B ⟨#[]⟩,D none 0 0] 30)).2.2
 have z0:(((w.alloc (F #[C A 3,C A n1,B s1,D a1 l1 c1] 30)).alloc (F #[C A 3,C A n2,B s2,D a2 l2 c2] 30)).alloc (F #[C A 0,C A 0,B ⟨#[]⟩,D none 0 0] 30)).heap.size=w.heap.size+3:=by simp
 have HB0:=aa b0
 have HQ3:=aa q3
 have HZ0:=aa z0
 clear b0 q3 z0
 go_enter Tryz.func79,Tryz.ntmps79
 go_wp2_with fail
 refine(HJ.out _).mono ?_
 generalize (((w.alloc (F #[C A 3,C A n1,B s1,D a1 l1 c1] 30)).alloc (F #[C A 3,C A n2,B s2,D a2 l2 c2] 30)).alloc (F #[C A 0,C A 0,B ⟨#[]⟩,D none 0 0] 30))=W at HB0 HQ3 HZ0 ⊢
 rintro e w1 ⟨rfl,k1⟩
 have hr:=(k1.block (w.heap.size+2) (by rw[HZ0.out];omega)).trans HQ3.out
 have HK:=aa (HB0.out.trans (k1.mono HB0.out.size))
 have HR:=aa hr
 obtain⟨r0,r1,r2,r3⟩:=ai hr
 obtain⟨f0,f1,f2,f3⟩:=aq hr
 simp at r0 r1 r2 r3
 have sz2:w.heap.size+2<w1.heap.size:=(Array.getElem?_eq_some_iff.1 hr).1
 clear hr k1
 go_wp2_with fail
 have E:=set4_here (b:=w.heap.size+1+1) HR.out (C A 3) (C A 0) (B (s1++s2)) (D none 0 0)
 have hbb:Below w.heap.size w ((((w1.setCell ⟨w.heap.size+1+1,0,none⟩ (C A 3)).setCell ⟨w.heap.size+1+1,1,none⟩ (C A 0)).setCell ⟨w.heap.size+1+1,2,none⟩ (B (s1++s2))).setCell ⟨w.heap.size+1+1,3,none⟩ (D none 0 0)):=(((HK.out.setCell (p:=⟨w.heap.size+1+1,0,none⟩) (by show w.heap.size≤w.heap.size+1+1;omega) _).setCell (p:=⟨w.heap.size+1+1,1,none⟩) (by show w.heap.size≤w.heap.size+1+1;omega) _).setCell (p:=⟨w.heap.size+1+1,2,none⟩) (by show w.heap.size≤w.heap.size+1+1;omega) _).setCell (p:=⟨w.heap.size+1+1,3,none⟩) (by show w.heap.size≤w.heap.size+1+1;omega) _
 generalize ((((w1.setCell ⟨w.heap.size+1+1,0,none⟩ (C A 3)).setCell ⟨w.heap.size+1+1,1,none⟩ (C A 0)).setCell ⟨w.heap.size+1+1,2,none⟩ (B (s1++s2))).setCell ⟨w.heap.size+1+1,3,none⟩ (D none 0 0))=Y at E hbb ⊢
 obtain⟨t0,t1,t2,t3⟩:=ai E
 simp at t0 t1 t2 t3
 exact bodyPost_ret (v:=H #[I #[C A 3,C A 0,B (s1++s2),D none 0 0],C A 0]) (by simp[results,Tryz.results79,go_sem,t0,t1,t2,t3]) rfl ⟨rfl,hbb⟩
theorem nJ (n1 n2:Int) (s1 s2:ByteArray) (a1 a2:Option Addr) (l1 c1 l2 c2:Nat) (w:World) (hs:4000<s1.size+s2.size) (hm:s1.size+s2.size≤9223372036854775807) :
 Calls Tryz.prog 79 #[B ⟨#[43]⟩,I #[C A 3,C A n1,B s1,D a1 l1 c1],I #[C A 3,C A n2,B s2,D a2 l2 c2]] w fun e w'=>e=K (H #[I #[C A 0,C A 0,B ⟨#[]⟩,D none 0 0],C A 2])∧Below w.heap.size w w':=by
 have HJ:Hid (∀U,Calls Tryz.prog 113 #[B s1,B s2] U fun e w'=>e=K (H #[I #[C A 0,C A 0,B ⟨#[]⟩,D none 0 0],C A 2])∧Below U.heap.size U w'):=fun U=>ko s1 s2 U hs hm
 have b0:Below w.heap.size w (((w.alloc (F #[C A 3,C A n1,B s1,D a1 l1 c1] 30)).alloc (F #[C A 3,C A n2,B s2,D a2 l2 c2] 30)).alloc (F #[C A 0,C A 0,B ⟨#[]⟩,D none 0 0] 30)):=(((J _ _).alloc (G _) _).alloc (by simp) _).alloc (by simp;omega) _
 have q3:=(three_alloc w (F #[C A 3,C A n1,B s1,D a1 l1 c1] 30) (F #[C A 3,C A n2,B s2,D a2 l2 c2] 30) (F #[C A 0,C A 0,B ⟨#[]⟩,D none 0 0] 30)).2.2
 have z0:(((w.alloc (F #[C A 3,C A n1,B s1,D a1 l1 c1] 30)).alloc (F #[C A 3,C A n2,B s2,D a2 l2 c2] 30)).alloc (F #[C A 0,C A 0,B ⟨#[]⟩,D none 0 0] 30)).heap.size=w.heap.size+3:=by simp
 have HB0:=aa b0
 have HQ3:=aa q3
 have HZ0:=aa z0
 clear b0 q3 z0
 go_enter Tryz.func79,Tryz.ntmps79
 go_wp2_with fail
 refine(HJ.out _).mono ?_
 generalize (((w.alloc (F #[C A 3,C A n1,B s1,D a1 l1 c1] 30)).alloc (F #[C A 3,C A n2,B s2,D a2 l2 c2] 30)).alloc (F #[C A 0,C A 0,B ⟨#[]⟩,D none 0 0] 30))=W at HB0 HQ3 HZ0 ⊢
 rintro e w1 ⟨rfl,k1⟩
 have hr:=(k1.block (w.heap.size+2) (by rw[HZ0.out];omega)).trans HQ3.out
 have HK:=aa (HB0.out.trans (k1.mono HB0.out.size))
 have HR:=aa hr
 obtain⟨r0,r1,r2,r3⟩:=ai hr
 obtain⟨f0,f1,f2,f3⟩:=aq hr
 simp at r0 r1 r2 r3
 have sz2:w.heap.size+2<w1.heap.size:=(Array.getElem?_eq_some_iff.1 hr).1
 clear hr k1
 go_wp2_with fail
 have E:=set4_here (b:=w.heap.size+1+1) HR.out (C A 0) (C A 0) (B ⟨#[]⟩) (D none 0 0)
 have hbb:Below w.heap.size w ((((w1.setCell ⟨w.heap.size+1+1,0,none⟩ (C A 0)).setCell ⟨w.heap.size+1+1,1,none⟩ (C A 0)).setCell ⟨w.heap.size+1+1,2,none⟩ (B ⟨#[]⟩)).setCell ⟨w.heap.size+1+1,3,none⟩ (D none 0 0)):=(((HK.out.setCell (p:=⟨w.heap.size+1+1,0,none⟩) (by show w.heap.size≤w.heap.size+1+1;omega) _).setCell (p:=⟨w.heap.size+1+1,1,none⟩) (by show w.heap.size≤w.heap.size+1+1;omega) _).setCell (p:=⟨w.heap.size+1+1,2,none⟩) (by show w.heap.size≤w.heap.size+1+1;omega) _).setCell (p:=⟨w.heap.size+1+1,3,none⟩) (by show w.heap.size≤w.heap.size+1+1;omega) _
 generalize ((((w1.setCell ⟨w.heap.size+1+1,0,none⟩ (C A 0)).setCell ⟨w.heap.size+1+1,1,none⟩ (C A 0)).setCell ⟨w.heap.size+1+1,2,none⟩ (B ⟨#[]⟩)).setCell ⟨w.heap.size+1+1,3,none⟩ (D none 0 0))=Y at E hbb ⊢
 obtain⟨t0,t1,t2,t3⟩:=ai E
 simp at t0 t1 t2 t3
 exact bodyPost_ret (v:=H #[I #[C A 0,C A 0,B ⟨#[]⟩,D none 0 0],C A 2]) (by simp[results,Tryz.results79,go_sem,t0,t1,t2,t3]) rfl ⟨rfl,hbb⟩
end Go.Proofs.YtijjpoohhgapoaaGreatDoor

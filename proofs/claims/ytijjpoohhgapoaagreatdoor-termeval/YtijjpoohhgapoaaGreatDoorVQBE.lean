import Derived.Test.YtijjpoohhgapoaaGreatDoorRows
import Derived.WalkKit
import Derived.ProofKit
import Derived.Below
import Derived.Deep.LoopGhost
import Derived.Deep.Draws
import Derived.WalkLawsBesides
import Derived.Deep.RegionHeld3
import Derived.Deep.AppendLies
import Derived.OwnWalk
import Derived.Deep.QuietTactic
import Derived.BigQuiet
import Derived.Laws.BitsAllLaws
import Derived.Laws.ShiftsVarLaws
import Derived.Orders
import Derived.RegionTactic
import Derived.Deep.DeepFit
import Derived.Deep.DeepCutAuto
import Derived.ChangeArms
namespace Go.Proofs.YtijjpoohhgapoaaGreatDoor
open Go.RowKit
set_option linter.unusedVariables false
set_option maxHeartbeats 8000000
set_option maxRecDepth 100000
open Value renaming slice → H, int → J, string → O, tuple → δ, pointer → ε, agg → ζ
open IntKind renaming i64 → M
open Obj renaming cells → Z
open Nat renaming le_refl → f, pow_succ → θ, lt_or_ge → ι, mul_add → κ, mul_assoc → ν, pow_le_pow_right → ξ, mul_le_mul_left → φ, zero_le → ψ, pow_add → ω
open RowKit.Below renaming refl → u
open Ending renaming returned → β
open List renaming take_of_length_le → γ, length_set → η, replicate → μ, length_take → ρ, eq_of_mem_replicate → σ, map_replicate → χ
namespace BG
theorem aa {p:Prop} (h:p):Hid p:=h
theorem bS (w:World) (o:Obj) (n j:Nat) (h:n<w.heap.size):(w.alloc o).cell? ⟨n,j,none⟩=w.cell? ⟨n,j,none⟩:=by
 exact World.cell?_alloc_lt w o (a:=⟨n,j,none⟩) h
theorem ag {k:IntKind} {a b:Int} (h:a=b):Ending.returned (.int k a)=β (.int k b):=by rw[h]
theorem bp {s:ByteArray} (h:s≠⟨#[]⟩):s.toList.isEmpty=false:=by
 rw[ByteArray.toList_eq]
 rcases s with⟨⟨l⟩⟩
 cases l with
 | nil=>exact absurd rfl h
 | cons a l=>rfl
theorem ae (w:World) (o:Obj):(w.alloc o).heap[w.heap.size]? = some o:=by
 show(w.heap.push o)[w.heap.size]? = _
 simp
theorem ac {w:World} {b:Nat} {cs:Array Value} {t:TypeId} (h:w.heap[b]? = some (Z cs t (0,0))) (j:Nat):w.cell? ⟨b,j,none⟩=cs[j]?:=by
 simp[World.cell?,h]
theorem aj {w:World} {b:Nat} {cs:Array Value} {t:TypeId} (h:w.heap[b]? = some (Z cs t (0,0))) (j:Nat):w.frozen? ⟨b,j,none⟩=false:=by
 simp[World.frozen?,h]
theorem ay (w:World) (o1 o2:Obj):((w.alloc o1).alloc o2).heap[w.heap.size+1]? = some o2:=by
 have:=ae (w.alloc o1) o2
 rw[show(w.alloc o1).heap.size=w.heap.size+1 from by simp] at this
 exact this
theorem af {w w1 w2:World} (h:Below w.heap.size w w1) (k:Below w1.heap.size w1 w2):Below w.heap.size w w2:=h.trans (k.mono h.size)
def vW:List Nat→Nat
 | []=>0
 | x::r=>x+4294967296*vW r
theorem iP:∀(a b:List Nat),vW (a++b)=vW a+4294967296 ^ a.length*vW b
 | [],b=>by simp[vW]
 | x::a,b=>by
   rw[List.cons_append,vW,iP a b,vW,List.length_cons,θ,κ]
   have:4294967296 ^ a.length*4294967296*vW b=4294967296*(4294967296 ^ a.length*vW b):=by rw[Nat.mul_comm (4294967296 ^ a.length),ν]
   omega
theorem bB {ws:List Nat} {m x:Nat} (h:ws[m]? = some x):vW (ws.take (m+1))=vW (ws.take m)+4294967296 ^ m*x:=by
 obtain⟨hm,rfl⟩:=List.getElem?_eq_some_iff.1 h
 rw[List.take_succ_eq_append_getElem hm,iP]
 have:(ws.take m).length=m:=by rw[ρ];omega
 rw[this]
 simp[vW]
def dM (ws:List Nat):Prop:=∀x ∈ ws,x<4294967296
def WAt (w:World) (ws:List Nat) (a:Option Addr) (l:Nat):Prop:=
 l=ws.length∧l≤1000∧dM ws∧(0<l→∃b off,a=some ⟨b,off,none⟩∧b<w.heap.size∧∀(i x:Nat),ws[i]? = some x→w.cell? ⟨b,off+i,none⟩=some (J .u32 (x:Int)))
theorem WAt.below {w w':World} (k:Below w.heap.size w w') {ws:List Nat} {a:Option Addr} {l:Nat} (h:WAt w ws a l):WAt w' ws a l:=by
 obtain⟨h1,h2,h4,h3⟩:=h
 refine⟨h1,h2,h4,fun h0=>?_⟩
 obtain⟨b,off,ha,hb,hc⟩:=h3 h0
 exact⟨b,off,ha,Nat.lt_of_lt_of_le hb k.size,fun i s hs=>(k.cell (p:=⟨b,off+i,none⟩) hb).trans (hc i s hs)⟩
theorem WAt.take {w:World} {ws:List Nat} {a:Option Addr} {l n:Nat} (h:WAt w ws a l) (hn:n≤l):WAt w (ws.take n) a n:=by
 obtain⟨h1,h2,h4,h3⟩:=h
 refine⟨by rw[ρ];omega,by omega,fun x hx=>h4 x (List.mem_of_mem_take hx),fun h0=>?_⟩
 obtain⟨b,off,ha,hb,hc⟩:=h3 (by omega)
 refine⟨b,off,ha,hb,fun i x hx=>hc i x ?_⟩
 rw[List.getElem?_take] at hx
 split at hx
 ·exact hx
 ·cases hx
def cN (ws:List Nat):Prop:=∀(m x:Nat),ws.length=m+1→ws[m]? = some x→x≠0
def qF (w:World) (ws:List Nat) (a:Option Addr) (c:Nat) (e:Ending):Prop:=∃n,n≤ws.length∧e=β (H a n c)∧WAt w (ws.take n) a n∧vW (ws.take n)=vW ws∧cN (ws.take n)
theorem fV (ws:List Nat) (a:Option Addr) (l c:Nat) (w:World) (h:WAt w ws a l) (hlc:l≤c) (hc:c≤9223372036854775807) (ha:a=none→c=0) :
 Calls Tryz.prog 128 #[H a l c] w fun e w'=>qF w ws a c e∧w'=w:=by
 have HW:=aa h
 have hl:=h.1
 have hl2:=h.2.1
 have HL:=aa hl
 have HAT:=aa h.2.2.2
 have HA:=aa ha
 clear h hl ha
 have HV0:Hid (vW (ws.take l)=vW ws):=by
  show vW (ws.take l)=vW ws
  rw[HL.out,List.take_length]
 have fin:Hid (∀n,n≤l→vW (ws.take n)=vW ws→(∀(m x:Nat),n=m+1→ws[m]? = some x→x≠0)→qF w ws a c (β (H a n c))):=by
  intro n hn hv ht
  refine⟨n,by have:=HL.out;omega,rfl,HW.out.take hn,hv,fun m x hm hx=>?_⟩
  have hm':n=m+1:=by rw[ρ] at hm;have:=HL.out;omega
  refine ht m x hm' ?_
  rw[List.getElem?_take] at hx
  split at hx
  ·exact hx
  ·cases hx
 go_enter Tryz.func128,Tryz.ntmps128
 go_wp2_with fail
 go_loopg [3] l (fun g s3 wr=>∃n:Nat,n≤l∧n≤g∧s3=J M n∧wr=w∧vW (ws.take n)=vW ws)
 case atStart=>exact⟨l,f _,f _,rfl,rfl,HV0.out⟩
 case round=>
  clear HV0
  obtain⟨n,hn,hg,rfl,rfl,hv⟩:=hrel
  have HV:=aa hv
  clear hv
  cases n with
  | zero=>
    have HF:=aa (fin.out 0 (ψ _) HV.out (fun m x hm=>by omega))
    clear fin HAT
    cases a with
    | none=>
      have h0:=HA.out rfl
      subst h0
      go_wp2_with fail
      go_ret
      exact⟨HF.out,rfl⟩
    | some ad=>
      go_wp2_with fail
      go_ret
      exact⟨HF.out,rfl⟩
  | succ m=>
    obtain⟨b,off,ha,hb,hcell⟩:=HAT.out (by omega)
    subst ha
    obtain⟨x,hx⟩:∃x,ws[m]? = some x:=⟨ws[m]'(by have:=HL.out;omega),List.getElem?_eq_getElem _⟩
    have d0:=hcell m x hx
    have HX:=aa hx
    clear hcell hx
    by_cases hx0:x=0
    ·subst hx0
     have HV2:=aa (show vW (ws.take m)=vW ws by rw[←HV.out,bB HX.out,Nat.mul_zero,Nat.add_zero])
     clear fin HV
     go_wp2_with fail
     go_roundg m
     case measure=>omega
     case rel=>exact⟨m,by omega,f _,by go_num,rfl,HV2.out⟩
    ·have hx0':((x:Int)==0)=false:=by simp[hx0]
     have HF:=aa (fin.out (m+1) hn HV.out (fun m' y hm hy=>by
      obtain rfl:m'=m:=by omega
      rw[HX.out] at hy
      injection hy with hy
      subst hy
      exact hx0))
     have hcc:(m:Int)+1≤c:=by omega
     clear fin hx0
     go_wp2_with fail
     go_ret
     exact⟨HF.out,rfl⟩
theorem rq:(Tryz.prog.info? 155).map (fun i=>(i.zero,i.size,i.bytes))=some (some (J .u32 0),1,4):=by kernel_rfl
theorem iw:∃i,Tryz.prog.info? 155=some i∧i.zero=some (J .u32 0)∧i.size=1∧i.bytes=4:=by
 obtain⟨i,h,e⟩:=Option.map_eq_some_iff.1 rq
 simp only[Prod.mk.injEq] at e
 exact⟨i,h,e⟩
def eM (rs:List Nat):List Value:=rs.map (fun(x:Nat)=>Value.int .u32 (x:Int))
def di (w':World) (v:Nat) (e:Ending):Prop:=∃a l c ws,e=β (H a l c)∧WAt w' ws a l∧l≤c∧c≤9223372036854775807∧(a=none→c=0)∧vW ws=v∧cN ws
theorem aF {α:Type} {L:List α} {i:Nat} (h:i<L.length):∃x,L[i]? = some x∧L.drop i=x::L.drop (i+1):=
 ⟨L[i],List.getElem?_eq_getElem h,List.drop_eq_getElem_cons h⟩
theorem aZ {B:Nat} {w w1 w2:World} (h:Below B w w1) (hB:B≤w1.heap.size) (k:Below w1.heap.size w1 w2):Below B w w2:=h.trans (k.mono hB)
theorem fl {w:World} {B g n cap:Nat} {rs:List Nat} (h:w.ownsRow B 155 1 (H (some ⟨g,0,none⟩) n cap) n (eM rs)) (hw:dM rs) (hn:n≤1000):WAt w rs (some ⟨g,0,none⟩) n∧n≤cap∧cap≤9223372036854775807:=by
 have hm:maxLen≤9223372036854775807:=by unfold maxLen;decide
 have hl:n=rs.length:=by have:=h.1;simp[eM] at this;omega
 rcases h.2 with⟨e,_⟩ | ⟨g',cap',cur,e,h1,h2,h3,h4,h5,h6⟩
 ·cases e
 ·simp only[Value.slice.injEq,Option.some.injEq,Addr.mk.injEq,and_true,true_and] at e
  obtain⟨rfl,rfl⟩:=e
  refine⟨⟨hl,hn,hw,fun _=>⟨g,0,rfl,(Array.getElem?_eq_some_iff.1 h2).1,fun i x hx=>?_⟩⟩,h3,by omega⟩
  rw[ac h2,Nat.zero_add]
  have h7:(cur.toList.take (n*1))[i]? = some (J .u32 (x:Int)):=by rw[h6,eM,List.getElem?_map,hx];rfl
  rw[List.getElem?_take] at h7
  split at h7
  ·simpa using h7
  ·cases h7
theorem dQ {w:World} {B g n cap:Nat} {rs:List Nat} (h:w.ownsRow B 155 1 (H (some ⟨g,0,none⟩) n cap) n (eM rs)) {i x:Nat} (hx:rs[i]? = some x):w.cell? ⟨g,i,none⟩=some (J .u32 (x:Int)):=by
 have:=h.cells (g:=g) rfl i (J .u32 (x:Int)) (by rw[eM,List.getElem?_map,hx];rfl)
 by_cases h0:i=0
 ·subst h0;simpa[Addr.add] using this
 ·simpa[Addr.add,h0] using this
theorem dt (rs:List Nat) (i v:Nat):(eM rs).set i (J .u32 (v:Int))=eM (rs.set i v):=by
 simp[eM]
theorem dM.set {rs:List Nat} (h:dM rs) {i v:Nat} (hv:v<4294967296):dM (rs.set i v):=fun x hx=>by
 rcases List.mem_or_eq_of_mem_set hx with h1 | rfl
 ·exact h x h1
 ·exact hv
theorem cH {rs:List Nat} {i v:Nat}:(rs.set i v).take i=rs.take i:=by
 rw[List.take_set_of_le (f _)]
theorem fX {rs:List Nat} {i v:Nat} (h:i<rs.length):(rs.set i v)[i]? = some v:=by
 simp[h]
theorem iL {A p cc X Y x y lo hi:Nat} (hv:A+p*cc=X+Y) (h:lo+4294967296*hi=cc+x+y):A+p*lo+p*4294967296*hi=X+p*x+(Y+p*y):=by
 have h1:p*(lo+4294967296*hi)=p*(cc+x+y):=by rw[h]
 rw[κ,κ,κ,←ν] at h1
 omega
theorem vx (xs ys:List Nat) (a:Option Addr) (la ca:Nat) (b:Option Addr) (lb cb:Nat) (w:World) (hA:WAt w xs a la) (hB:WAt w ys b lb) (h100:la≤100) (h100b:lb≤100) (hge:lb≤la) :
 Calls Tryz.prog 125 #[H a la ca,H b lb cb] w fun e w'=>di w' (vW xs+vW ys) e∧Below w.heap.size w w':=by
 have HXL:=aa hA.1
 have HYL:=aa hB.1
 have HXW:=aa hA.2.2.1
 have HYW:=aa hB.2.2.1
 have HXA:=aa hA.2.2.2
 have HYA:=aa hB.2.2.2
 clear hA hB
 obtain⟨iu,hi0,hiz,his,hib⟩:=iw
 have HI0:=aa hi0
 have HIZ:=aa hiz
 have HIS:=aa his
 have HB4:iu.bytes*(la+1)≤281474976710656:=by rw[hib];omega
 have HB5:la+1≤maxLen:=by unfold maxLen;omega
 clear hi0 hiz his hib
 obtain⟨S,hS⟩:∃S,S=vW xs+vW ys:=⟨_,rfl⟩
 rw[←hS]
 have HS:=aa hS
 clear hS
 go_enter Tryz.func125,Tryz.ntmps125
 go_wp2_with (at_make;refine wpList_make_full _ rfl _ _ 96 rfl w.heap.size 155 iu _ 1 Tryz.underlying96 HI0.out HIZ.out HIS.out .i64 .i64 ((la:Int)+1) ((la:Int)+1) (la+1) rfl rfl (by omega) (by omega) HB4 HB5 (f _) ?_)
 intro w1 hown hgrow
 have b1:Below w.heap.size w w1:=(u _ _).grown hgrow (f _) (fun k hk=>by cases hk)
 rw[toList_madeCells_one] at hown
 have hown':w1.ownsRow w.heap.size 155 1 (H (some ⟨w.heap.size,0,none⟩) (la+1) (la+1)) (la+1) (eM (μ (la+1) 0)):=by
  rw[eM,χ]
  exact hown
 have HOWN1:=aa hown'
 have HB1:=aa b1
 clear hown hown' hgrow b1 HB4 HB5
 go_wp2_with fail
 go_loopg [6,7] la (fun g s6 s7 wr=>∃(i cc:Nat) (rs:List Nat),i≤la∧la-i≤g∧s6=J .u64 cc∧s7=J M i∧cc≤1∧rs.length=la+1∧dM rs∧wr.ownsRow w.heap.size 155 1 (H (some ⟨w.heap.size,0,none⟩) (la+1) (la+1)) (la+1) (eM rs)∧Below w.heap.size w wr∧vW (rs.take i)+4294967296 ^ i*cc=vW (xs.take i)+vW (ys.take i))
 case atStart=>exact⟨0,0,μ (la+1) 0,ψ _,by omega,rfl,rfl,by omega,by simp,(fun x hx=>by rw[σ hx];decide),HOWN1.out,HB1.out,by simp[vW]⟩
 case round=>
  clear HOWN1 HB1
  obtain⟨i,cc,rs,hi,hg,rfl,rfl,hcc,hrl,hrw,hown,hbw,hv⟩:=hrel
  have HRL:=aa hrl
  have HRW:=aa hrw
  have HOWN:=aa hown
  have HBW:=aa hbw
  have HV:=aa hv
  have HCC:=aa hcc
  clear hrl hrw hown hbw hv
  by_cases hlt:i<la
  ·obtain⟨ab,ao,ha,hab,hac⟩:=HXA.out (by omega)
   subst ha
   obtain⟨x,hx,_⟩:=aF (L:=xs) (i:=i) (by have:=HXL.out;omega)
   have d0:=(HBW.out.cell (p:=⟨ab,ao+i,none⟩) hab).trans (hac i x hx)
   have hx32:x<4294967296:=HXW.out x (List.mem_of_getElem? hx)
   have HX:=aa hx
   obtain⟨r,hr,_⟩:=aF (L:=rs) (i:=i) (by have:=HRL.out;omega)
   have e0:=dQ HOWN.out hr
   have f0:=HOWN.out.frozenAt i
   clear hac hx hr
   by_cases hlb:i<lb
   ·obtain⟨bb,bo,hb,hbb,hbc⟩:=HYA.out (by omega)
    subst hb
    obtain⟨y,hy,_⟩:=aF (L:=ys) (i:=i) (by have:=HYL.out;omega)
    have d1:=(HBW.out.cell (p:=⟨bb,bo+i,none⟩) hbb).trans (hbc i y hy)
    have hy32:y<4294967296:=HYW.out y (List.mem_of_getElem? hy)
    have HY:=aa hy
    have hlb':(i:Int)<lb:=by omega
    clear hbc hy
    go_wp2_with fail
    go_roundg (la-(i+1))
    case measure=>omega
    case rel=>
     have hst:=(HOWN.out.stored i (J .u32 ((((cc+x+y) % 4294967296:Nat)):Int))).1
     rw[dt] at hst
     refine⟨i+1,((cc+x+y)) / 4294967296,rs.set i (((cc+x+y)) % 4294967296),by omega,by omega,by rw[show((cc:Int)+(x:Int)+(y:Int)) / 4294967296=((((cc+x+y)) / 4294967296:Nat):Int) from by omega],by go_num,by omega,by rw[η];exact HRL.out,HRW.out.set (by omega),?_,?_,?_⟩
     ·rw[show((cc:Int)+(x:Int)+(y:Int)) % 4294967296=((((cc+x+y)) % 4294967296:Nat):Int) from by omega]
      exact hst
     ·exact HBW.out.setCell (p:=⟨w.heap.size,i,none⟩) (f _) _
     ·rw[bB (fX (by have:=HRL.out;omega)),cH,bB HX.out,bB HY.out,θ]
      exact iL HV.out (by omega)
   ·have hlb':¬(i:Int)<lb:=by omega
    have HYT:=aa (show vW (ys.take (i+1))=vW (ys.take i)+4294967296 ^ i*0 by rw[γ (by have:=HYL.out;omega),γ (by have:=HYL.out;omega)];omega)
    go_wp2_with fail
    go_roundg (la-(i+1))
    case measure=>omega
    case rel=>
     have hst:=(HOWN.out.stored i (J .u32 ((((cc+x) % 4294967296:Nat)):Int))).1
     rw[dt] at hst
     refine⟨i+1,((cc+x)) / 4294967296,rs.set i (((cc+x)) % 4294967296),by omega,by omega,by rw[show((cc:Int)+(x:Int)) / 4294967296=((((cc+x)) / 4294967296:Nat):Int) from by omega],by go_num,by omega,by rw[η];exact HRL.out,HRW.out.set (by omega),?_,?_,?_⟩
     ·rw[show((cc:Int)+(x:Int)) % 4294967296=((((cc+x)) % 4294967296:Nat):Int) from by omega]
      exact hst
     ·exact HBW.out.setCell (p:=⟨w.heap.size,i,none⟩) (f _) _
     ·rw[bB (fX (by have:=HRL.out;omega)),cH,bB HX.out,HYT.out,θ]
      exact iL HV.out (by omega)
  ·have hil:i=la:=by omega
   subst hil
   obtain⟨r,hr,_⟩:=aF (L:=rs) (i:=i) (by have:=HRL.out;omega)
   have e0:=dQ HOWN.out hr
   have f0:=HOWN.out.frozenAt i
   have hst:=(HOWN.out.stored i (J .u32 ((cc:Nat):Int))).1
   rw[dt] at hst
   obtain⟨hwat,hwc1,hwc2⟩:=fl hst (HRW.out.set (by omega)) (by omega)
   have HTR:=aa (fV (rs.set i cc) (some ⟨w.heap.size,0,none⟩) (i+1) (i+1) _ hwat hwc1 hwc2 (fun h=>by cases h))
   have HB9:=aa (HBW.out.setCell (p:=⟨w.heap.size,i,none⟩) (f _) (J .u32 ((cc:Nat):Int)))
   have HVV:=aa (show vW (rs.set i cc)=S by
    have h1:(rs.set i cc).take (i+1)=rs.set i cc:=γ (by rw[η];have:=HRL.out;omega)
    rw[←h1,bB (fX (by have:=HRL.out;omega)),cH,HV.out,γ (by have:=HXL.out;omega),γ (by have:=HYL.out;omega),HS.out])
   clear hr hst hwat hwc1 hwc2
   go_wp2_with fail
   refine HTR.out.mono ?_
   generalize wr.setCell ⟨w.heap.size,i,none⟩ (J .u32 ((cc:Nat):Int))=X at HTR HB9 ⊢
   rintro e w2 ⟨⟨n,hn,rfl,h1,h2,h3⟩,rfl⟩
   have hnl:n≤i+1:=by rw[η] at hn;have:=HRL.out;omega
   have HE:=aa (show di w2 S (β (H (some ⟨w.heap.size,0,none⟩) n (i+1))) from⟨_,n,i+1,_,rfl,h1,hnl,by omega,(fun h=>by cases h),h2.trans HVV.out,h3⟩)
   clear h1 h2 h3 HTR
   go_wp2_with fail
   go_ret
   exact⟨HE.out,HB9.out⟩
theorem vw (xs ys:List Nat) (a:Option Addr) (la ca:Nat) (b:Option Addr) (lb cb:Nat) (w:World) (hA:WAt w xs a la) (hB:WAt w ys b lb) (h100:la≤100) (h100b:lb≤100) (hge:lb<la) :
 Calls Tryz.prog 125 #[H b lb cb,H a la ca] w fun e w'=>di w' (vW xs+vW ys) e∧Below w.heap.size w w':=by
 have HXL:=aa hA.1
 have HYL:=aa hB.1
 have HXW:=aa hA.2.2.1
 have HYW:=aa hB.2.2.1
 have HXA:=aa hA.2.2.2
 have HYA:=aa hB.2.2.2
 clear hA hB
 obtain⟨iu,hi0,hiz,his,hib⟩:=iw
 have HI0:=aa hi0
 have HIZ:=aa hiz
 have HIS:=aa his
 have HB4:iu.bytes*(la+1)≤281474976710656:=by rw[hib];omega
 have HB5:la+1≤maxLen:=by unfold maxLen;omega
 clear hi0 hiz his hib
 obtain⟨S,hS⟩:∃S,S=vW xs+vW ys:=⟨_,rfl⟩
 rw[←hS]
 have HS:=aa hS
 clear hS
 go_enter Tryz.func125,Tryz.ntmps125
 go_wp2_with (at_make;refine wpList_make_full _ rfl _ _ 96 rfl w.heap.size 155 iu _ 1 Tryz.underlying96 HI0.out HIZ.out HIS.out .i64 .i64 ((la:Int)+1) ((la:Int)+1) (la+1) rfl rfl (by omega) (by omega) HB4 HB5 (f _) ?_)
 intro w1 hown hgrow
 have b1:Below w.heap.size w w1:=(u _ _).grown hgrow (f _) (fun k hk=>by cases hk)
 rw[toList_madeCells_one] at hown
 have hown':w1.ownsRow w.heap.size 155 1 (H (some ⟨w.heap.size,0,none⟩) (la+1) (la+1)) (la+1) (eM (μ (la+1) 0)):=by
  rw[eM,χ]
  exact hown
 have HOWN1:=aa hown'
 have HB1:=aa b1
 clear hown hown' hgrow b1 HB4 HB5
 go_wp2_with fail
 go_loopg [6,7] la (fun g s6 s7 wr=>∃(i cc:Nat) (rs:List Nat),i≤la∧la-i≤g∧s6=J .u64 cc∧s7=J M i∧cc≤1∧rs.length=la+1∧dM rs∧wr.ownsRow w.heap.size 155 1 (H (some ⟨w.heap.size,0,none⟩) (la+1) (la+1)) (la+1) (eM rs)∧Below w.heap.size w wr∧vW (rs.take i)+4294967296 ^ i*cc=vW (xs.take i)+vW (ys.take i))
 case atStart=>exact⟨0,0,μ (la+1) 0,ψ _,by omega,rfl,rfl,by omega,by simp,(fun x hx=>by rw[σ hx];decide),HOWN1.out,HB1.out,by simp[vW]⟩
 case round=>
  clear HOWN1 HB1
  obtain⟨i,cc,rs,hi,hg,rfl,rfl,hcc,hrl,hrw,hown,hbw,hv⟩:=hrel
  have HRL:=aa hrl
  have HRW:=aa hrw
  have HOWN:=aa hown
  have HBW:=aa hbw
  have HV:=aa hv
  have HCC:=aa hcc
  clear hrl hrw hown hbw hv
  by_cases hlt:i<la
  ·obtain⟨ab,ao,ha,hab,hac⟩:=HXA.out (by omega)
   subst ha
   obtain⟨x,hx,_⟩:=aF (L:=xs) (i:=i) (by have:=HXL.out;omega)
   have d0:=(HBW.out.cell (p:=⟨ab,ao+i,none⟩) hab).trans (hac i x hx)
   have hx32:x<4294967296:=HXW.out x (List.mem_of_getElem? hx)
   have HX:=aa hx
   obtain⟨r,hr,_⟩:=aF (L:=rs) (i:=i) (by have:=HRL.out;omega)
   have e0:=dQ HOWN.out hr
   have f0:=HOWN.out.frozenAt i
   clear hac hx hr
   by_cases hlb:i<lb
   ·obtain⟨bb,bo,hb,hbb,hbc⟩:=HYA.out (by omega)
    subst hb
    obtain⟨y,hy,_⟩:=aF (L:=ys) (i:=i) (by have:=HYL.out;omega)
    have d1:=(HBW.out.cell (p:=⟨bb,bo+i,none⟩) hbb).trans (hbc i y hy)
    have hy32:y<4294967296:=HYW.out y (List.mem_of_getElem? hy)
    have HY:=aa hy
    have hlb':(i:Int)<lb:=by omega
    clear hbc hy
    go_wp2_with fail
    go_roundg (la-(i+1))
    case measure=>omega
    case rel=>
     have hst:=(HOWN.out.stored i (J .u32 ((((cc+x+y) % 4294967296:Nat)):Int))).1
     rw[dt] at hst
     refine⟨i+1,((cc+x+y)) / 4294967296,rs.set i (((cc+x+y)) % 4294967296),by omega,by omega,by rw[show((cc:Int)+(x:Int)+(y:Int)) / 4294967296=((((cc+x+y)) / 4294967296:Nat):Int) from by omega],by go_num,by omega,by rw[η];exact HRL.out,HRW.out.set (by omega),?_,?_,?_⟩
     ·rw[show((cc:Int)+(x:Int)+(y:Int)) % 4294967296=((((cc+x+y)) % 4294967296:Nat):Int) from by omega]
      exact hst
     ·exact HBW.out.setCell (p:=⟨w.heap.size,i,none⟩) (f _) _
     ·rw[bB (fX (by have:=HRL.out;omega)),cH,bB HX.out,bB HY.out,θ]
      exact iL HV.out (by omega)
   ·have hlb':¬(i:Int)<lb:=by omega
    have HYT:=aa (show vW (ys.take (i+1))=vW (ys.take i)+4294967296 ^ i*0 by rw[γ (by have:=HYL.out;omega),γ (by have:=HYL.out;omega)];omega)
    go_wp2_with fail
    go_roundg (la-(i+1))
    case measure=>omega
    case rel=>
     have hst:=(HOWN.out.stored i (J .u32 ((((cc+x) % 4294967296:Nat)):Int))).1
     rw[dt] at hst
     refine⟨i+1,((cc+x)) / 4294967296,rs.set i (((cc+x)) % 4294967296),by omega,by omega,by rw[show((cc:Int)+(x:Int)) / 4294967296=((((cc+x)) / 4294967296:Nat):Int) from by omega],by go_num,by omega,by rw[η];exact HRL.out,HRW.out.set (by omega),?_,?_,?_⟩
     ·rw[show((cc:Int)+(x:Int)) % 4294967296=((((cc+x)) % 4294967296:Nat):Int) from by omega]
      exact hst
     ·exact HBW.out.setCell (p:=⟨w.heap.size,i,none⟩) (f _) _
     ·rw[bB (fX (by have:=HRL.out;omega)),cH,bB HX.out,HYT.out,θ]
      exact iL HV.out (by omega)
  ·have hil:i=la:=by omega
   subst hil
   obtain⟨r,hr,_⟩:=aF (L:=rs) (i:=i) (by have:=HRL.out;omega)
   have e0:=dQ HOWN.out hr
   have f0:=HOWN.out.frozenAt i
   have hst:=(HOWN.out.stored i (J .u32 ((cc:Nat):Int))).1
   rw[dt] at hst
   obtain⟨hwat,hwc1,hwc2⟩:=fl hst (HRW.out.set (by omega)) (by omega)
   have HTR:=aa (fV (rs.set i cc) (some ⟨w.heap.size,0,none⟩) (i+1) (i+1) _ hwat hwc1 hwc2 (fun h=>by cases h))
   have HB9:=aa (HBW.out.setCell (p:=⟨w.heap.size,i,none⟩) (f _) (J .u32 ((cc:Nat):Int)))
   have HVV:=aa (show vW (rs.set i cc)=S by
    have h1:(rs.set i cc).take (i+1)=rs.set i cc:=γ (by rw[η];have:=HRL.out;omega)
    rw[←h1,bB (fX (by have:=HRL.out;omega)),cH,HV.out,γ (by have:=HXL.out;omega),γ (by have:=HYL.out;omega),HS.out])
   clear hr hst hwat hwc1 hwc2
   go_wp2_with fail
   refine HTR.out.mono ?_
   generalize wr.setCell ⟨w.heap.size,i,none⟩ (J .u32 ((cc:Nat):Int))=X at HTR HB9 ⊢
   rintro e w2 ⟨⟨n,hn,rfl,h1,h2,h3⟩,rfl⟩
   have hnl:n≤i+1:=by rw[η] at hn;have:=HRL.out;omega
   have HE:=aa (show di w2 S (β (H (some ⟨w.heap.size,0,none⟩) n (i+1))) from⟨_,n,i+1,_,rfl,h1,hnl,by omega,(fun h=>by cases h),h2.trans HVV.out,h3⟩)
   clear h1 h2 h3 HTR
   go_wp2_with fail
   go_ret
   exact⟨HE.out,HB9.out⟩
theorem wrap64 (z:Int):IntKind.u64.wrap z=z % 18446744073709551616:=by
 simp[IntKind.wrap,IntKind.signed,IntKind.bits]
theorem lq:∀(ws:List Nat),dM ws→vW ws<4294967296 ^ ws.length
 | [],_=>by simp[vW]
 | x::r,h=>by
   have h1:=lq r (fun y hy=>h y (List.mem_cons_of_mem _ hy))
   have h2:=h x (List.mem_cons_self ..)
   rw[vW,List.length_cons,θ]
   omega
theorem ng {A p cc X Y x y lo hi:Nat} (hv:X+p*cc=A+Y) (h:x+4294967296*hi=cc+y+lo):X+p*x+p*4294967296*hi=A+p*lo+(Y+p*y):=by
 have h1:p*(x+4294967296*hi)=p*(cc+y+lo):=by rw[h]
 rw[κ,κ,κ,←ν] at h1
 omega
theorem pW (xs ys:List Nat) (a:Option Addr) (la ca:Nat) (b:Option Addr) (lb cb:Nat) (w:World) (hA:WAt w xs a la) (hB:WAt w ys b lb) (h100:la≤100) (hge:lb≤la) (hv:vW ys≤vW xs) :
 Calls Tryz.prog 127 #[H a la ca,H b lb cb] w fun e w'=>di w' (vW xs-vW ys) e∧Below w.heap.size w w':=by
 have HXL:=aa hA.1
 have HYL:=aa hB.1
 have HXW:=aa hA.2.2.1
 have HYW:=aa hB.2.2.1
 have HXA:=aa hA.2.2.2
 have HYA:=aa hB.2.2.2
 have HVV:=aa hv
 clear hA hB hv
 obtain⟨iu,hi0,hiz,his,hib⟩:=iw
 have HI0:=aa hi0
 have HIZ:=aa hiz
 have HIS:=aa his
 have HB4:iu.bytes*la≤281474976710656:=by rw[hib];omega
 have HB5:la≤maxLen:=by unfold maxLen;omega
 clear hi0 hiz his hib
 obtain⟨S,hS⟩:∃S,S=vW xs-vW ys:=⟨_,rfl⟩
 rw[←hS]
 have HS:=aa hS
 clear hS
 go_enter Tryz.func127,Tryz.ntmps127
 go_wp2_with (at_make;refine wpList_make_full _ rfl _ _ 96 rfl w.heap.size 155 iu _ 1 Tryz.underlying96 HI0.out HIZ.out HIS.out .i64 .i64 (la:Int) (la:Int) la rfl rfl (by omega) (by omega) HB4 HB5 (f _) ?_)
 intro w1 hown hgrow
 have b1:Below w.heap.size w w1:=(u _ _).grown hgrow (f _) (fun k hk=>by cases hk)
 rw[toList_madeCells_one] at hown
 have hown':w1.ownsRow w.heap.size 155 1 (H (some ⟨w.heap.size,0,none⟩) la la) la (eM (μ la 0)):=by
  rw[eM,χ]
  exact hown
 have HOWN1:=aa hown'
 have HB1:=aa b1
 clear hown hown' hgrow b1 HB4 HB5
 go_wp2_with fail
 go_loopg [6,7] la (fun g s6 s7 wr=>∃(i cc:Nat) (rs:List Nat),i≤la∧la-i≤g∧s6=J .u64 cc∧s7=J M i∧cc≤1∧rs.length=la∧dM rs∧wr.ownsRow w.heap.size 155 1 (H (some ⟨w.heap.size,0,none⟩) la la) la (eM rs)∧Below w.heap.size w wr∧vW (xs.take i)+4294967296 ^ i*cc=vW (rs.take i)+vW (ys.take i))
 case atStart=>exact⟨0,0,μ la 0,ψ _,by omega,rfl,rfl,by omega,by simp,(fun x hx=>by rw[σ hx];decide),HOWN1.out,HB1.out,by simp[vW]⟩
 case round=>
  clear HOWN1 HB1
  obtain⟨i,cc,rs,hi,hg,rfl,rfl,hcc,hrl,hrw,hown,hbw,hv⟩:=hrel
  have HRL:=aa hrl
  have HRW:=aa hrw
  have HOWN:=aa hown
  have HBW:=aa hbw
  have HV:=aa hv
  clear hrl hrw hown hbw hv
  by_cases hlt:i<la
  ·obtain⟨ab,ao,ha,hab,hac⟩:=HXA.out (by omega)
   subst ha
   obtain⟨x,hx,_⟩:=aF (L:=xs) (i:=i) (by have:=HXL.out;omega)
   have d0:=(HBW.out.cell (p:=⟨ab,ao+i,none⟩) hab).trans (hac i x hx)
   have hx32:x<4294967296:=HXW.out x (List.mem_of_getElem? hx)
   have HX:=aa hx
   obtain⟨r,hr,_⟩:=aF (L:=rs) (i:=i) (by have:=HRL.out;omega)
   have e0:=dQ HOWN.out hr
   have f0:=HOWN.out.frozenAt i
   clear hac hx hr
   by_cases hlb:i<lb
   ·obtain⟨bb,bo,hb,hbb,hbc⟩:=HYA.out (by omega)
    subst hb
    obtain⟨y,hy,_⟩:=aF (L:=ys) (i:=i) (by have:=HYL.out;omega)
    have d1:=(HBW.out.cell (p:=⟨bb,bo+i,none⟩) hbb).trans (hbc i y hy)
    have hy32:y<4294967296:=HYW.out y (List.mem_of_getElem? hy)
    have HY:=aa hy
    have hlb':(i:Int)<lb:=by omega
    clear hbc hy
    obtain⟨lo,hh,hlo,hhi,hsum,hlo32⟩:∃lo hh:Nat,IntKind.u64.wrap (IntKind.u64.wrap ((x:Int)-(cc:Int))-(y:Int)) % 4294967296=(lo:Int)∧IntKind.u64.wrap (IntKind.u64.wrap ((x:Int)-(cc:Int))-(y:Int)) / 9223372036854775808=(hh:Int)∧(x+4294967296*hh=cc+y+lo∧hh≤1)∧lo<4294967296:=by
     simp only[wrap64]
     by_cases hq:cc+y≤x
     ·exact⟨x-cc-y,0,by omega,by omega,⟨by omega,by omega⟩,by omega⟩
     ·exact⟨x+4294967296-cc-y,1,by omega,by omega,⟨by omega,by omega⟩,by omega⟩
    have HSUM:=aa hsum.1
    have HHH:=aa hsum.2
    clear hsum
    go_wp2_with fail
    go_roundg (la-(i+1))
    case measure=>omega
    case rel=>
     have hst:=(HOWN.out.stored i (J .u32 (lo:Int))).1
     rw[dt] at hst
     refine⟨i+1,hh,rs.set i lo,by omega,by omega,rfl,by go_num,HHH.out,by rw[η];exact HRL.out,HRW.out.set hlo32,hst,HBW.out.setCell (p:=⟨w.heap.size,i,none⟩) (f _) _,?_⟩
     rw[bB (fX (by have:=HRL.out;omega)),cH,bB HX.out,bB HY.out,θ]
     exact ng HV.out HSUM.out
   ·have hlb':¬(i:Int)<lb:=by omega
    have HYT:=aa (show vW (ys.take (i+1))=vW (ys.take i)+4294967296 ^ i*0 by rw[γ (by have:=HYL.out;omega),γ (by have:=HYL.out;omega)];omega)
    obtain⟨lo,hh,hlo,hhi,hsum,hlo32⟩:∃lo hh:Nat,IntKind.u64.wrap ((x:Int)-(cc:Int)) % 4294967296=(lo:Int)∧IntKind.u64.wrap ((x:Int)-(cc:Int)) / 9223372036854775808=(hh:Int)∧(x+4294967296*hh=cc+0+lo∧hh≤1)∧lo<4294967296:=by
     simp only[wrap64]
     by_cases hq:cc+0≤x
     ·exact⟨x-cc-0,0,by omega,by omega,⟨by omega,by omega⟩,by omega⟩
     ·exact⟨x+4294967296-cc-0,1,by omega,by omega,⟨by omega,by omega⟩,by omega⟩
    have HSUM:=aa hsum.1
    have HHH:=aa hsum.2
    clear hsum
    go_wp2_with fail
    go_roundg (la-(i+1))
    case measure=>omega
    case rel=>
     have hst:=(HOWN.out.stored i (J .u32 (lo:Int))).1
     rw[dt] at hst
     refine⟨i+1,hh,rs.set i lo,by omega,by omega,rfl,by go_num,HHH.out,by rw[η];exact HRL.out,HRW.out.set hlo32,hst,HBW.out.setCell (p:=⟨w.heap.size,i,none⟩) (f _) _,?_⟩
     rw[bB (fX (by have:=HRL.out;omega)),cH,bB HX.out,HYT.out,θ]
     exact ng HV.out HSUM.out
  ·have hil:i=la:=by omega
   subst hil
   have hcz:cc=0∧vW rs=S:=by
    have h1:=HV.out
    rw[γ (by have:=HXL.out;omega),γ (by have:=HRL.out;omega),γ (by have:=HYL.out;omega)] at h1
    have h2:=HVV.out
    have h3:=lq xs HXW.out
    have h4:=lq rs HRW.out
    rw[HRL.out] at h4
    rw[←HXL.out] at h3
    have h5:=HS.out
    have hc:cc=0∨cc=1:=by omega
    rcases hc with rfl | rfl
    ·refine⟨rfl,?_⟩
     rw[Nat.mul_zero] at h1
     omega
    ·exfalso
     rw[Nat.mul_one] at h1
     omega
   obtain⟨hwat,hwc1,hwc2⟩:=fl HOWN.out HRW.out (by omega)
   have HTR:=aa (fV rs (some ⟨w.heap.size,0,none⟩) i i wr hwat hwc1 hwc2 (fun h=>by cases h))
   have HVS:=aa hcz.2
   clear hwat hwc1 hwc2 hcz
   go_wp2_with fail
   refine HTR.out.mono ?_
   rintro e w2 ⟨⟨n,hn,rfl,h1,h2,h3⟩,rfl⟩
   have hnl:n≤i:=by rw[HRL.out] at hn;exact hn
   have HE:=aa (show di w2 S (β (H (some ⟨w.heap.size,0,none⟩) n i)) from⟨_,n,i,_,rfl,h1,hnl,by omega,(fun h=>by cases h),h2.trans HVS.out,h3⟩)
   clear h1 h2 h3 HTR
   go_wp2_with fail
   go_ret
   exact⟨HE.out,HBW.out⟩
def iF (x y:Nat):Int:=if x<y then -1 else if y<x then 1 else 0
theorem mI {x y:Nat} (h:x<y):iF x y = -1:=by rw[iF,if_pos h]
theorem qo {x y:Nat} (h:y<x):iF x y=1:=by rw[iF,if_neg (by omega),if_pos h]
theorem tP {x y:Nat} (h:x=y):iF x y=0:=by rw[iF,if_neg (by omega),if_neg (by omega)]
theorem jN {ws:List Nat} {i x:Nat} (h:ws[i]? = some x):vW ws=vW (ws.take i)+4294967296 ^ i*x+4294967296 ^ (i+1)*vW (ws.drop (i+1)):=by
 have hi:=(List.getElem?_eq_some_iff.1 h).1
 have h1:vW ws=vW (ws.take (i+1)++ws.drop (i+1)):=by rw[List.take_append_drop]
 rw[h1,iP,bB h,ρ,Nat.min_eq_left (by omega)]
theorem oI {ws:List Nat} (h:dM ws) (i:Nat):dM (ws.take i):=fun x hx=>h x (List.mem_of_mem_take hx)
theorem eE {xs ys:List Nat} (hx:dM xs) (hy:cN ys) (h:xs.length<ys.length):vW xs<vW ys:=by
 obtain⟨m,hm⟩:∃m,ys.length=m+1:=⟨ys.length-1,by omega⟩
 obtain⟨y,hyy⟩:∃y,ys[m]? = some y:=⟨ys[m]'(by omega),List.getElem?_eq_getElem _⟩
 have h0:=hy m y hm hyy
 have h1:=lq xs hx
 have h2:=jN hyy
 have h3:4294967296 ^ xs.length≤4294967296 ^ m:=ξ (by decide) (by omega)
 have h4:4294967296 ^ m*1≤4294967296 ^ m*y:=φ _ (by omega)
 omega
theorem ne {xs ys:List Nat} {i x y:Nat} (hx:dM xs) (h1:xs[i]? = some x) (h2:ys[i]? = some y) (hd:xs.drop (i+1)=ys.drop (i+1)) (h:x<y):vW xs<vW ys:=by
 have a:=jN h1
 have b:=jN h2
 have hi:=(List.getElem?_eq_some_iff.1 h1).1
 have c:=lq (xs.take i) (oI hx i)
 rw[ρ,Nat.min_eq_left (by omega)] at c
 rw[hd] at a
 have d:4294967296 ^ i*(x+1)≤4294967296 ^ i*y:=φ _ (by omega)
 rw[κ] at d
 omega
theorem tO (xs ys:List Nat) (a:Option Addr) (la ca:Nat) (b:Option Addr) (lb cb:Nat) (w:World) (hA:WAt w xs a la) (hB:WAt w ys b lb) (hTx:cN xs) (hTy:cN ys) :
 Calls Tryz.prog 126 #[H a la ca,H b lb cb] w fun e w'=>e=β (J M (iF (vW xs) (vW ys)))∧Below w.heap.size w w':=by
 have HXL:=aa hA.1
 have HYL:=aa hB.1
 have hla:=hA.2.1
 have hlb:=hB.2.1
 have HXW:=aa hA.2.2.1
 have HYW:=aa hB.2.2.1
 have HXA:=aa hA.2.2.2
 have HYA:=aa hB.2.2.2
 obtain⟨R,hR⟩:∃R,R=iF (vW xs) (vW ys):=⟨_,rfl⟩
 rw[←hR]
 have HR:=aa hR
 have HTX:=aa hTx
 have HTY:=aa hTy
 clear hA hB hR hTx hTy
 by_cases hll:la=lb
 ·subst hll
  go_enter Tryz.func126,Tryz.ntmps126
  go_wp2_with fail
  go_loopg [5] la (fun g s5 wr=>∃n:Nat,n≤la∧n≤g∧s5=J M ((n:Int)-1)∧Below w.heap.size w wr∧xs.drop n=ys.drop n)
  case atStart=>exact⟨la,f _,f _,rfl,u _ _,by rw[List.drop_eq_nil_of_le (by have:=HXL.out;omega),List.drop_eq_nil_of_le (by have:=HYL.out;omega)]⟩
  case round=>
   obtain⟨n,hn,hg,rfl,hbw,hd⟩:=hrel
   have HD:=aa hd
   have HBW:=aa hbw
   clear hd hbw
   cases n with
   | zero=>
     have H3:=aa (show R=0 by
      have h1:=HD.out
      rw[List.drop_zero,List.drop_zero] at h1
      rw[HR.out,h1]
      exact tP rfl)
     go_wp2_with fail
     go_ret
     exact⟨ag (by rw[H3.out]),HBW.out⟩
   | succ i=>
     obtain⟨ab,ao,ha,hab,hac⟩:=HXA.out (by omega)
     obtain⟨bb,bo,hb,hbb,hbc⟩:=HYA.out (by omega)
     subst ha hb
     obtain⟨x,hx,hdx⟩:=aF (L:=xs) (i:=i) (by have:=HXL.out;omega)
     obtain⟨y,hy,hdy⟩:=aF (L:=ys) (i:=i) (by have:=HYL.out;omega)
     have d0:=(HBW.out.cell (p:=⟨ab,ao+i,none⟩) hab).trans (hac i x hx)
     have d1:=(HBW.out.cell (p:=⟨bb,bo+i,none⟩) hbb).trans (hbc i y hy)
     have HX:=aa hx
     have HY:=aa hy
     have HDX:=aa hdx
     have HDY:=aa hdy
     have hii:((i:Int)+1)-1=i:=by omega
     have hil:(i:Int)<la:=by omega
     clear hac hbc hx hy hdx hdy
     by_cases hxy:x=y
     ·have hne:((x:Int) != (y:Int))=false:=by simp[hxy]
      have HD2:=aa (show xs.drop i=ys.drop i by rw[HDX.out,HDY.out,HD.out,hxy])
      clear hxy
      go_wp2_with fail
      go_quiet (fail)
      go_wp2_with fail
      go_roundg i
      case measure=>omega
      case rel=>
       have hbw:=HBW.out
       exact⟨i,by omega,f _,by go_num,below_drewN hbw _,HD2.out⟩
     ·have hne:((x:Int) != (y:Int))=true:=by simp;omega
      by_cases hlt:x<y
      ·have H3:=aa (show R = -1 by rw[HR.out];exact mI (ne HXW.out HX.out HY.out HD.out hlt))
       have hlt':(x:Int)<(y:Int):=by omega
       clear hxy
       go_wp2_with fail
       go_quiet (fail)
       go_wp2_with fail
       go_quiet (fail)
       go_wp2_with fail
       go_ret
       have hbw:=HBW.out
       exact⟨ag (by rw[H3.out]),below_drewN (below_drewN hbw _) _⟩
      ·have H3:=aa (show R=1 by rw[HR.out];exact qo (ne HYW.out HY.out HX.out HD.out.symm (by omega)))
       have hlt':¬(x:Int)<(y:Int):=by omega
       clear hxy
       go_wp2_with fail
       go_quiet (fail)
       go_wp2_with fail
       go_quiet (fail)
       go_wp2_with fail
       go_ret
       have hbw:=HBW.out
       exact⟨ag (by rw[H3.out]),below_drewN (below_drewN hbw _) _⟩
 ·have hne:((la:Int) != (lb:Int))=true:=by simp;omega
  by_cases hlt:la<lb
  ·have H3:=aa (show R = -1 by rw[HR.out];exact mI (eE HXW.out HTY.out (by have:=HXL.out;have:=HYL.out;omega)))
   have hlt':(la:Int)<(lb:Int):=by omega
   go_enter Tryz.func126,Tryz.ntmps126
   go_wp2_with fail
   go_ret
   exact⟨ag (by rw[H3.out]),u _ _⟩
  ·have H3:=aa (show R=1 by rw[HR.out];exact qo (eE HYW.out HTX.out (by have:=HXL.out;have:=HYL.out;omega)))
   have hlt':¬(la:Int)<(lb:Int):=by omega
   go_enter Tryz.func126,Tryz.ntmps126
   go_wp2_with fail
   go_ret
   exact⟨ag (by rw[H3.out]),u _ _⟩
theorem qI (x:Nat) (w:World) (hx:x<18446744073709551616) :
 Calls Tryz.prog 124 #[J .u64 (x:Int)] w fun e w'=>di w' x e∧Below w.heap.size w w':=by
 obtain⟨lo,hlo⟩:∃lo,lo=x % 4294967296:=⟨_,rfl⟩
 obtain⟨hi,hhi⟩:∃hi,hi=x / 4294967296:=⟨_,rfl⟩
 have h1:(x:Int) % 4294967296=(lo:Int):=by omega
 have h2:(x:Int) / 4294967296=(hi:Int):=by omega
 have h3:hi<4294967296:=by omega
 have HV:=aa (show vW [lo,hi]=x by simp only[vW];omega)
 have HW:Hid (dM [lo,hi]):=fun y hy=>by
  simp at hy
  rcases hy with rfl | rfl<;>omega
 have hblk:=ae w (Z #[J .u32 (lo:Int),J .u32 (hi:Int)] 155)
 have HWA:Hid (WAt (w.alloc (Z #[J .u32 (lo:Int),J .u32 (hi:Int)] 155)) [lo,hi] (some ⟨w.heap.size,0,none⟩) 2):=by
  refine⟨rfl,by omega,HW.out,fun _=>⟨w.heap.size,0,rfl,by simp,fun i y hy=>?_⟩⟩
  match i,hy with
  | 0,hy=>simp at hy;subst hy;exact ac hblk 0
  | 1,hy=>simp at hy;subst hy;exact ac hblk 1
  | i+2,hy=>simp at hy
 have HTR:=aa (fV [lo,hi] (some ⟨w.heap.size,0,none⟩) 2 2 _ HWA.out (by omega) (by omega) (fun h=>by cases h))
 have HB:=aa ((u w.heap.size w).alloc (f _) (Z #[J .u32 (lo:Int),J .u32 (hi:Int)] 155))
 clear hblk hlo hhi
 have hx':(x:Int)<18446744073709551616:=by omega
 go_enter Tryz.func124,Tryz.ntmps124
 go_wp2_with fail
 refine HTR.out.mono ?_
 generalize w.alloc (Z #[J .u32 (lo:Int),J .u32 (hi:Int)] 155)=X at HTR HB HWA ⊢
 rintro e w2 ⟨⟨n,hn,rfl,q1,q2,q3⟩,rfl⟩
 have HE:=aa (show di w2 x (β (H (some ⟨w.heap.size,0,none⟩) n 2)) from⟨_,n,2,_,rfl,q1,hn,by omega,(fun h=>by cases h),q2.trans HV.out,q3⟩)
 clear q1 q2 q3 HTR
 go_wp2_with fail
 go_ret
 exact⟨HE.out,HB.out⟩
def ci (w:World) (ib:Nat) (z:Int):Prop:=∃(neg:Bool) (a:Option Addr) (l c:Nat) (ws:List Nat),w.heap[ib]? = some (Z #[.bool neg,H a l c] 98 (0,0))∧WAt w ws a l∧l≤c∧c≤9223372036854775807∧(a=none→c=0)∧cN ws∧z=(if neg=true then -(vW ws:Int) else (vW ws:Int))∧(neg=true→0<l)
theorem wA {ws:List Nat} (h:cN ws) (h0:vW ws=0):ws = []:=by
 cases ws with
 | nil=>rfl
 | cons x r=>
   exfalso
   have:=eE (xs:=[]) (fun x hx=>by cases hx) h (by simp)
   simp only[vW] at this h0
   omega
theorem gh (ib:Nat) (n0:Bool) (v0:Value) (neg:Bool) (a:Option Addr) (l c:Nat) (w:World) (hb:w.heap[ib]? = some (Z #[.bool n0,v0] 98 (0,0))) (hl:l≤9223372036854775807) :
 Calls Tryz.prog 102 #[ε (some ⟨ib,0,none⟩),.bool neg,H a l c] w fun e w'=>e=β (ε (some ⟨ib,0,none⟩))∧w'.heap[ib]? = some (Z #[.bool (neg&&decide (0<l)),H a l c] 98 (0,0))∧w'.heap.size=w.heap.size∧(∀j,j≠ib→w'.heap[j]? = w.heap[j]?)∧Below ib w w':=by
 obtain⟨r,hr⟩:∃r,r=(neg&&decide (0<l)):=⟨_,rfl⟩
 rw[←hr]
 have x0:=ac hb 0
 have x1:=ac hb 1
 simp at x0 x1
 have f0:=aj hb 0
 have f1:=aj hb 1
 have HE:Hid (((w.setCell ⟨ib,1,none⟩ (H a l c)).setCell ⟨ib,0,none⟩ (.bool r)).heap[ib]? = some (Z #[.bool r,H a l c] 98 (0,0))):=by
  show _=_
  simp[World.setCell,Array.getElem?_modify,hb]
 have HO:Hid (∀j,j≠ib→((w.setCell ⟨ib,1,none⟩ (H a l c)).setCell ⟨ib,0,none⟩ (.bool r)).heap[j]? = w.heap[j]?):=fun j hj=>(Below.heap_setCell _ _ _ j hj).trans (Below.heap_setCell _ _ _ j hj)
 have HB:Hid (Below ib w ((w.setCell ⟨ib,1,none⟩ (H a l c)).setCell ⟨ib,0,none⟩ (.bool r))):=((u _ _).setCell (p:=⟨ib,1,none⟩) (f _) _).setCell (p:=⟨ib,0,none⟩) (f _) _
 have HZ:Hid (((w.setCell ⟨ib,1,none⟩ (H a l c)).setCell ⟨ib,0,none⟩ (.bool r)).heap.size=w.heap.size):=by
  show _=_
  simp[World.setCell]
 have hib:ib<w.heap.size:=(Array.getElem?_eq_some_iff.1 hb).1
 clear hb
 cases neg with
 | false=>
   have hr':r=false:=by rw[hr];rfl
   subst hr'
   clear hr
   go_enter Tryz.func102,Tryz.ntmps102
   go_wp2_with fail
   go_ret
   exact⟨rfl,HE.out,HZ.out,HO.out,HB.out⟩
 | true=>
   by_cases h0:0<l
   ·have hr':r=true:=by rw[hr];simp[h0]
    subst hr'
    clear hr
    have h0':(0:Int)<l:=by omega
    go_enter Tryz.func102,Tryz.ntmps102
    go_wp2_with fail
    go_ret
    exact⟨rfl,HE.out,HZ.out,HO.out,HB.out⟩
   ·have hr':r=false:=by rw[hr];simp[h0]
    subst hr'
    clear hr
    have hl0:l=0:=by omega
    subst hl0
    go_enter Tryz.func102,Tryz.ntmps102
    go_wp2_with fail
    go_ret
    exact⟨rfl,HE.out,HZ.out,HO.out,HB.out⟩
def sgn (neg:Bool) (v:Nat):Int:=if neg=true then -(v:Int) else (v:Int)
def ji (w':World) (z:Int) (e:Ending):Prop:=∃rn a l c ws,e=β (δ #[.bool rn,H a l c])∧WAt w' ws a l∧l≤c∧c≤9223372036854775807∧(a=none→c=0)∧cN ws∧z=sgn rn (vW ws)
theorem fw {ws:List Nat} (h:cN ws) (hv:vW ws≤9223372036854775808):ws.length≤2:=by
 rcases ι 2 ws.length with h3 | h3
 ·exfalso
  have:=eE (xs:=[4294967295,4294967295]) (fun x hx=>by simp at hx;omega) h (by simpa using h3)
  have e:vW [4294967295,4294967295]=18446744073709551615:=by decide
  omega
 ·exact h3
theorem pV (xn yn:Bool) (xs ys:List Nat) (a:Option Addr) (la ca:Nat) (b:Option Addr) (lb cb:Nat) (w:World) (hA:WAt w xs a la) (hB:WAt w ys b lb) (hTx:cN xs) (hTy:cN ys) (h100:la≤100) (h100b:lb≤100) :
 Calls Tryz.prog 103 #[.bool xn,H a la ca,.bool yn,H b lb cb] w fun e w'=>ji w' (sgn xn (vW xs)+sgn yn (vW ys)) e∧Below w.heap.size w w':=by
 have CA:Hid (∀W,Below w.heap.size w W→Calls Tryz.prog 125 #[H a la ca,H b lb cb] W fun e w'=>di w' (vW xs+vW ys) e∧Below W.heap.size W w'):=fun W k=>by
  by_cases h:lb≤la
  ·exact vx xs ys a la ca b lb cb W (hA.below k) (hB.below k) h100 h100b h
  ·rw[Nat.add_comm]
   exact vw ys xs b lb cb a la ca W (hB.below k) (hA.below k) h100b h100 (by omega)
 have CC:Hid (∀W,Below w.heap.size w W→Calls Tryz.prog 126 #[H a la ca,H b lb cb] W fun e w'=>e=β (J M (iF (vW xs) (vW ys)))∧Below W.heap.size W w'):=fun W k=>tO xs ys a la ca b lb cb W (hA.below k) (hB.below k) hTx hTy
 have le1:vW ys≤vW xs→lb≤la:=fun hv=>by
  rcases ι la lb with h | h
  ·have:=eE hA.2.2.1 hTy (by have:=hA.1;have:=hB.1;omega)
   omega
  ·exact h
 have le2:vW xs<vW ys→la≤lb:=fun hv=>by
  rcases ι lb la with h | h
  ·have:=eE hB.2.2.1 hTx (by have:=hA.1;have:=hB.1;omega)
   omega
  ·exact h
 have CS:Hid (vW ys≤vW xs→∀W,Below w.heap.size w W→Calls Tryz.prog 127 #[H a la ca,H b lb cb] W fun e w'=>di w' (vW xs-vW ys) e∧Below W.heap.size W w'):=fun hv W k=>pW xs ys a la ca b lb cb W (hA.below k) (hB.below k) h100 (le1 hv) hv
 have CT:Hid (vW xs<vW ys→∀W,Below w.heap.size w W→Calls Tryz.prog 127 #[H b lb cb,H a la ca] W fun e w'=>di w' (vW ys-vW xs) e∧Below W.heap.size W w'):=fun hv W k=>pW ys xs b lb cb a la ca W (hB.below k) (hA.below k) h100b (le2 hv) (by omega)
 obtain⟨z,hz⟩:∃z,z=sgn xn (vW xs)+sgn yn (vW ys):=⟨_,rfl⟩
 rw[←hz]
 have HZ:=aa hz
 obtain⟨X,hX⟩:∃X,X=vW xs:=⟨_,rfl⟩
 obtain⟨Y,hY⟩:∃Y,Y=vW ys:=⟨_,rfl⟩
 rw[←hX,←hY] at CA CC CS CT HZ
 clear hA hB hTx hTy le1 le2 hz hX hY
 by_cases hn:xn=yn
 ·subst hn
  go_enter Tryz.func103,Tryz.ntmps103
  go_wp2_with fail
  refine(CA.out _ (u _ _)).mono ?_
  rintro e w1 ⟨⟨ra,rl,rc,rs,rfl,g1,g2,g3,g4,g5,g6⟩,k1⟩
  have HE:=aa (show ji w1 z (β (δ #[.bool xn,H ra rl rc])) from⟨xn,ra,rl,rc,rs,rfl,g1,g2,g3,g4,g6,by rw[HZ.out,g5];unfold sgn;cases xn<;>simp<;>omega⟩)
  clear g1 g2 g3 g4 g5 g6
  go_wp2_with fail
  exact bodyPost_ret (v:=δ #[.bool xn,H ra rl rc]) (by simp[results,Tryz.results103,go_sem]) rfl ⟨HE.out,k1⟩
 ·have hne:(xn==yn)=false:=by simpa using hn
  by_cases hv:X<Y
  ·have hc:¬(0:Int)≤iF X Y:=by rw[mI hv];decide
   have HS:=aa (show z=sgn yn (Y-X) by rw[HZ.out];unfold sgn;cases xn<;>cases yn<;>simp at hn ⊢<;>omega)
   have CT':=aa (CT.out hv)
   clear CS CT CA HZ hn
   generalize iF X Y=cv at CC hc
   go_enter Tryz.func103,Tryz.ntmps103
   go_wp2_with fail
   refine(CC.out _ (u _ _)).mono ?_
   rintro e w1 ⟨rfl,k1⟩
   go_wp2_with fail
   refine(CT'.out _ k1).mono ?_
   rintro e w2 ⟨⟨ra,rl,rc,rs,rfl,g1,g2,g3,g4,g5,g6⟩,k2⟩
   have HE:=aa (show ji w2 z (β (δ #[.bool yn,H ra rl rc])) from⟨yn,ra,rl,rc,rs,rfl,g1,g2,g3,g4,g6,by rw[HS.out,g5]⟩)
   have HB:=aa (af k1 k2)
   clear g1 g2 g3 g4 g5 g6 k1 k2
   go_wp2_with fail
   exact bodyPost_ret (v:=δ #[.bool yn,H ra rl rc]) (by simp[results,Tryz.results103,go_sem]) rfl ⟨HE.out,HB.out⟩
  ·have hc:(0:Int)≤iF X Y:=by unfold iF;rw[if_neg hv];split<;>decide
   have HS:=aa (show z=sgn xn (X-Y) by rw[HZ.out];unfold sgn;cases xn<;>cases yn<;>simp at hn ⊢<;>omega)
   have CS':=aa (CS.out (by omega))
   clear CS CT CA HZ hn
   generalize iF X Y=cv at CC hc
   go_enter Tryz.func103,Tryz.ntmps103
   go_wp2_with fail
   refine(CC.out _ (u _ _)).mono ?_
   rintro e w1 ⟨rfl,k1⟩
   go_wp2_with fail
   refine(CS'.out _ k1).mono ?_
   rintro e w2 ⟨⟨ra,rl,rc,rs,rfl,g1,g2,g3,g4,g5,g6⟩,k2⟩
   have HE:=aa (show ji w2 z (β (δ #[.bool xn,H ra rl rc])) from⟨xn,ra,rl,rc,rs,rfl,g1,g2,g3,g4,g6,by rw[HS.out,g5]⟩)
   have HB:=aa (af k1 k2)
   clear g1 g2 g3 g4 g5 g6 k1 k2
   go_wp2_with fail
   exact bodyPost_ret (v:=δ #[.bool xn,H ra rl rc]) (by simp[results,Tryz.results103,go_sem]) rfl ⟨HE.out,HB.out⟩
theorem iB {u1 u2:World} {zb:Nat} {rn:Bool} {ra:Option Addr} {rl rc:Nat} {rs:List Nat} {z:Int} (g1:WAt u1 rs ra rl) (g2:rl≤rc) (g3:rc≤9223372036854775807) (g4:ra=none→rc=0) (g5:cN rs) (g6:z=sgn rn (vW rs))
 (m1:u2.heap[zb]? = some (Z #[.bool (rn&&decide (0<rl)),H ra rl rc] 98 (0,0))) (m2:u2.heap.size=u1.heap.size) (m3:∀j,j≠zb→u2.heap[j]? = u1.heap[j]?) (hne:∀b off,ra=some ⟨b,off,none⟩→0<rl→b≠zb):ci u2 zb z:=by
 refine⟨_,ra,rl,rc,rs,m1,⟨g1.1,g1.2.1,g1.2.2.1,fun h0=>?_⟩,g2,g3,g4,g5,?_,fun h=>?_⟩
 ·obtain⟨b,off,ha,hb,hc⟩:=g1.2.2.2 h0
  exact⟨b,off,ha,by omega,fun i x hx=>(World.cell?_of_block (a:=⟨b,off+i,none⟩) (m3 b (hne b off ha h0))).trans (hc i x hx)⟩
 ·rw[g6]
  unfold sgn
  cases rn with
  | false=>simp
  | true=>
    by_cases h0:0<rl
    ·simp[h0]
    ·have hr:rs = []:=List.length_eq_zero_iff.1 (by have:=g1.1;omega)
     subst hr
     simp[vW]
 ·cases rn with
  | false=>simp at h
  | true=>simpa using h
theorem jG {w u1:World} {zb:Nat} {z0:Bool} {v0:Value} {rs:List Nat} {ra:Option Addr} {rl:Nat} (k1:Below w.heap.size w u1) (hzb:zb<w.heap.size) (hz:w.heap[zb]? = some (Z #[.bool z0,v0] 98 (0,0))) (h2:∀x:Nat,v0≠J .u32 (x:Int)) (g1:WAt u1 rs ra rl):∀b off,ra=some ⟨b,off,none⟩→0<rl→b≠zb:=by
 intro b off ha h0 e
 subst e
 obtain⟨b',off',ha',hb,hc⟩:=g1.2.2.2 h0
 rw[ha] at ha'
 injection ha' with ha'
 injection ha' with e1 e2
 subst e1 e2
 obtain⟨x,hx⟩:∃x,rs[0]? = some x:=⟨rs[0]'(by have:=g1.1;omega),List.getElem?_eq_getElem _⟩
 have h1:=hc 0 x hx
 have h3:=(k1.block b hzb).trans hz
 rw[ac h3] at h1
 match off,h1 with
 | 0,h1=>simp at h1
 | 1,h1=>simp at h1;exact h2 x h1
 | off+2,h1=>simp at h1
theorem me (ib:Nat) (n0:Bool) (a0:Option Addr) (l0 c0:Nat) (x:Int) (w:World) (hb:w.heap[ib]? = some (Z #[.bool n0,H a0 l0 c0] 98 (0,0))) (hx:-9223372036854775808≤x∧x≤9223372036854775807) :
 Calls Tryz.prog 101 #[ε (some ⟨ib,0,none⟩),J M x] w fun e w'=>e=β (ε (some ⟨ib,0,none⟩))∧ci w' ib x∧Below ib w w':=by
 have hib:ib<w.heap.size:=(Array.getElem?_eq_some_iff.1 hb).1
 obtain⟨m,hm⟩:∃m:Nat,(m:Int)=if x<0 then -x else x:=⟨x.natAbs,by split<;>omega⟩
 have hm64:m<18446744073709551616:=by split at hm<;>omega
 have HWD:Hid (∀W,Calls Tryz.prog 124 #[J .u64 (m:Int)] W fun e w'=>di w' m e∧Below W.heap.size W w'):=fun W=>qI m W hm64
 have HBB:=aa hb
 have fin:Hid (∀(neg:Bool) (w1 w2:World) (ra:Option Addr) (rl rc:Nat) (rs:List Nat),x=sgn neg m→Below w.heap.size w w1→WAt w1 rs ra rl→rl≤rc→rc≤9223372036854775807→(ra=none→rc=0)→vW rs=m→cN rs→w2.heap[ib]? = some (Z #[.bool (neg&&decide (0<rl)),H ra rl rc] 98 (0,0))→w2.heap.size=w1.heap.size→(∀j,j≠ib→w2.heap[j]? = w1.heap[j]?)→ci w2 ib x):=by
  intro neg w1 w2 ra rl rc rs hxs k1 g1 g2 g3 g4 gv g5 m1 m2 m3
  exact iB g1 g2 g3 g4 g5 (by rw[gv];exact hxs) m1 m2 m3 (jG k1 hib HBB.out (fun y h=>by cases h) g1)
 clear hb
 by_cases h0:x<0
 ·have hw:IntKind.u64.wrap (-(IntKind.u64.wrap x))=(m:Int):=by rw[if_pos h0] at hm;simp only[wrap64];omega
  have HS:=aa (show x=sgn true m by rw[if_pos h0] at hm;unfold sgn;simp;omega)
  clear hm
  go_enter Tryz.func101,Tryz.ntmps101
  go_wp2_with fail
  refine(HWD.out _).mono ?_
  rintro e w1 ⟨⟨ra,rl,rc,rs,rfl,g1,g2,g3,g4,g5,g6⟩,k1⟩
  have HG:=aa (gh ib n0 (H a0 l0 c0) true ra rl rc w1 ((k1.block ib hib).trans HBB.out) (by have:=g1.2.1;omega))
  have HF:=aa (fun w2=>fin.out true w1 w2 ra rl rc rs HS.out k1 g1 g2 g3 g4 g5 g6)
  clear g1 g2 g3 g4 g5 g6
  go_wp2_with fail
  refine HG.out.mono ?_
  rintro e w2 ⟨rfl,m1,m2,m3,m4⟩
  have HI:=aa (HF.out w2 m1 m2 m3)
  have HB:=aa ((k1.mono (Nat.le_of_lt hib)).trans m4)
  clear m1 m2 m3 m4 HG HF
  go_wp2_with fail
  go_ret
  exact⟨rfl,HI.out,HB.out⟩
 ·have hw:IntKind.u64.wrap x=(m:Int):=by rw[if_neg h0] at hm;simp only[wrap64];omega
  have HS:=aa (show x=sgn false m by rw[if_neg h0] at hm;unfold sgn;simp;omega)
  clear hm
  go_enter Tryz.func101,Tryz.ntmps101
  go_wp2_with fail
  refine(HWD.out _).mono ?_
  rintro e w1 ⟨⟨ra,rl,rc,rs,rfl,g1,g2,g3,g4,g5,g6⟩,k1⟩
  have HG:=aa (gh ib n0 (H a0 l0 c0) false ra rl rc w1 ((k1.block ib hib).trans HBB.out) (by have:=g1.2.1;omega))
  have HF:=aa (fun w2=>fin.out false w1 w2 ra rl rc rs HS.out k1 g1 g2 g3 g4 g5 g6)
  clear g1 g2 g3 g4 g5 g6
  go_wp2_with fail
  refine HG.out.mono ?_
  rintro e w2 ⟨rfl,m1,m2,m3,m4⟩
  have HI:=aa (HF.out w2 m1 m2 m3)
  have HB:=aa ((k1.mono (Nat.le_of_lt hib)).trans m4)
  clear m1 m2 m3 m4 HG HF
  go_wp2_with fail
  go_ret
  exact⟨rfl,HI.out,HB.out⟩
theorem dD (x:Int) (w:World) (hx:-9223372036854775808≤x∧x≤9223372036854775807) :
 Calls Tryz.prog 64 #[J M x] w fun e w'=>e=β (ε (some ⟨w.heap.size,0,none⟩))∧ci w' w.heap.size x∧Below w.heap.size w w':=by
 have HS:=aa (me w.heap.size false none 0 0 x (w.alloc (Z #[.bool false,H none 0 0] 98)) (ae _ _) hx)
 have HB:=aa ((u w.heap.size w).alloc (f _) (Z #[.bool false,H none 0 0] 98))
 go_enter Tryz.func64,Tryz.ntmps64
 go_wp2_with fail
 refine HS.out.mono ?_
 rintro e w1 ⟨rfl,h1,k1⟩
 have HI:=aa h1
 have HK:=aa (HB.out.trans k1)
 clear h1 k1
 go_wp2_with fail
 go_ret
 exact⟨rfl,HI.out,HK.out⟩
theorem ua (zb xb yb:Nat) (z0:Bool) (v0:Value) (x y:Int) (w:World) (hz:w.heap[zb]? = some (Z #[.bool z0,v0] 98 (0,0))) (hv0:∀x:Nat,v0≠J .u32 (x:Int)) (hx:ci w xb x) (hy:ci w yb y) (hbx:-9223372036854775808≤x∧x≤9223372036854775807) (hby:-9223372036854775808≤y∧y≤9223372036854775807) (hxz:xb≠zb) (hyz:yb≠zb) :
 Calls Tryz.prog 65 #[ε (some ⟨zb,0,none⟩),ε (some ⟨xb,0,none⟩),ε (some ⟨yb,0,none⟩)] w fun e w'=>e=β (ε (some ⟨zb,0,none⟩))∧ci w' zb (x+y)∧Below zb w w':=by
 obtain⟨xn,xa,xl,xc,xs,hxc,hxw,hx1,hx2,hx3,hxt,hxv,_⟩:=hx
 obtain⟨yn,ya,yl,yc,ys,hyc,hyw,hy1,hy2,hy3,hyt,hyv,_⟩:=hy
 have hxl:xl≤2:=by rw[hxw.1];exact fw hxt (by rw[hxv] at hbx;split at hbx<;>omega)
 have hyl:yl≤2:=by rw[hyw.1];exact fw hyt (by rw[hyv] at hby;split at hby<;>omega)
 have HSUM:Hid (∀W,Below w.heap.size w W→Calls Tryz.prog 103 #[.bool xn,H xa xl xc,.bool yn,H ya yl yc] W fun e w'=>ji w' (x+y) e∧Below W.heap.size W w'):=fun W k=>by
  have:=pV xn yn xs ys xa xl xc ya yl yc W (hxw.below k) (hyw.below k) hxt hyt (by omega) (by omega)
  rw[show x+y=sgn xn (vW xs)+sgn yn (vW ys) by rw[hxv,hyv];unfold sgn;cases xn<;>cases yn<;>simp<;>omega]
  exact this
 have p0:=ac hxc 0
 have p1:=ac hxc 1
 have q0:=ac hyc 0
 have q1:=ac hyc 1
 simp at p0 p1 q0 q1
 have hxb:xb<w.heap.size:=(Array.getElem?_eq_some_iff.1 hxc).1
 have hyb:yb<w.heap.size:=(Array.getElem?_eq_some_iff.1 hyc).1
 have hzb:zb<w.heap.size:=(Array.getElem?_eq_some_iff.1 hz).1
 have HZC:=aa hz
 clear hxc hyc hxw hyw hx1 hx2 hx3 hy1 hy2 hy3 hxt hyt hxv hyv hz hbx hby
 obtain⟨zz,hzz⟩:∃zz,zz=x+y:=⟨_,rfl⟩
 rw[←hzz] at HSUM ⊢
 clear hzz
 have D0:Below w.heap.size w w.drew:=(u _ _).drew
 go_enter Tryz.func65,Tryz.ntmps65
 go_wp2_with fail
 go_region_held3 (fun w'=>w'.cell? ⟨xb,0,none⟩=some (.bool xn)∧w'.cell? ⟨xb,1,none⟩=some (H xa xl xc)∧w'.cell? ⟨yb,0,none⟩=some (.bool yn)∧w'.cell? ⟨yb,1,none⟩=some (H ya yl yc))
  (first
    | exact S2
    | exact S1
    | exact⟨p0,p1,q0,q1⟩
    | go_keep)
  (first
    | (go_at_call 103;refine(HSUM.out _ D0).mono ?_;rintro e u1 ⟨⟨rn,ra,rl,rc,rs,rfl,g1,g2,g3,g4,g5,g6⟩,h1⟩;have k1:Below w.heap.size w u1:=D0.trans h1;have HG1:=aa g1;have HG5:=aa g5;have HG6:=aa g6;have HG4:=aa g4;have HG2:=aa g2;have HG3:=aa g3;clear g1 g2 g3 g4 g5 g6;have S1:u1.cell? ⟨xb,0,none⟩=some (.bool xn)∧u1.cell? ⟨xb,1,none⟩=some (H xa xl xc)∧u1.cell? ⟨yb,0,none⟩=some (.bool yn)∧u1.cell? ⟨yb,1,none⟩=some (H ya yl yc):=⟨(k1.cell (p:=⟨xb,0,none⟩) hxb).trans p0,(k1.cell (p:=⟨xb,1,none⟩) hxb).trans p1,(k1.cell (p:=⟨yb,0,none⟩) hyb).trans q0,(k1.cell (p:=⟨yb,1,none⟩) hyb).trans q1⟩)
    | (go_at_call 102;refine(gh zb z0 v0 rn ra rl rc u1 ((k1.block zb hzb).trans HZC.out) (by have:=HG1.out.2.1;omega)).mono ?_;rintro e u2 ⟨rfl,m1,m2,m3,m4⟩;have S2:u2.cell? ⟨xb,0,none⟩=some (.bool xn)∧u2.cell? ⟨xb,1,none⟩=some (H xa xl xc)∧u2.cell? ⟨yb,0,none⟩=some (.bool yn)∧u2.cell? ⟨yb,1,none⟩=some (H ya yl yc):=⟨(World.cell?_of_block (a:=⟨xb,0,none⟩) (m3 xb hxz)).trans S1.1,(World.cell?_of_block (a:=⟨xb,1,none⟩) (m3 xb hxz)).trans S1.2.1,(World.cell?_of_block (a:=⟨yb,0,none⟩) (m3 yb hyz)).trans S1.2.2.1,(World.cell?_of_block (a:=⟨yb,1,none⟩) (m3 yb hyz)).trans S1.2.2.2⟩))
 all_goals
  go_wp2_with fail
  go_ret
  refine⟨rfl,iB HG1.out HG2.out HG3.out HG4.out HG5.out HG6.out m1 m2 m3 ?_,(k1.mono (Nat.le_of_lt hzb)).trans m4⟩
  exact jG k1 hzb HZC.out hv0 HG1.out
theorem ti (zb xb yb:Nat) (z0:Bool) (v0:Value) (x y:Int) (w:World) (hz:w.heap[zb]? = some (Z #[.bool z0,v0] 98 (0,0))) (hv0:∀x:Nat,v0≠J .u32 (x:Int)) (hx:ci w xb x) (hy:ci w yb y) (hbx:-9223372036854775808≤x∧x≤9223372036854775807) (hby:-9223372036854775808≤y∧y≤9223372036854775807) (hxz:xb≠zb) (hyz:yb≠zb) :
 Calls Tryz.prog 66 #[ε (some ⟨zb,0,none⟩),ε (some ⟨xb,0,none⟩),ε (some ⟨yb,0,none⟩)] w fun e w'=>e=β (ε (some ⟨zb,0,none⟩))∧ci w' zb (x-y)∧Below zb w w':=by
 obtain⟨xn,xa,xl,xc,xs,hxc,hxw,hx1,hx2,hx3,hxt,hxv,_⟩:=hx
 obtain⟨yn,ya,yl,yc,ys,hyc,hyw,hy1,hy2,hy3,hyt,hyv,_⟩:=hy
 have hxl:xl≤2:=by rw[hxw.1];exact fw hxt (by rw[hxv] at hbx;split at hbx<;>omega)
 have hyl:yl≤2:=by rw[hyw.1];exact fw hyt (by rw[hyv] at hby;split at hby<;>omega)
 have HSUM:Hid (∀W,Below w.heap.size w W→Calls Tryz.prog 103 #[.bool xn,H xa xl xc,.bool (!yn),H ya yl yc] W fun e w'=>ji w' (x-y) e∧Below W.heap.size W w'):=fun W k=>by
  have:=pV xn (!yn) xs ys xa xl xc ya yl yc W (hxw.below k) (hyw.below k) hxt hyt (by omega) (by omega)
  rw[show x-y=sgn xn (vW xs)+sgn (!yn) (vW ys) by rw[hxv,hyv];unfold sgn;cases xn<;>cases yn<;>simp<;>omega]
  exact this
 have p0:=ac hxc 0
 have p1:=ac hxc 1
 have q0:=ac hyc 0
 have q1:=ac hyc 1
 simp at p0 p1 q0 q1
 have hxb:xb<w.heap.size:=(Array.getElem?_eq_some_iff.1 hxc).1
 have hyb:yb<w.heap.size:=(Array.getElem?_eq_some_iff.1 hyc).1
 have hzb:zb<w.heap.size:=(Array.getElem?_eq_some_iff.1 hz).1
 have HZC:=aa hz
 clear hxc hyc hxw hyw hx1 hx2 hx3 hy1 hy2 hy3 hxt hyt hxv hyv hz hbx hby
 obtain⟨zz,hzz⟩:∃zz,zz=x-y:=⟨_,rfl⟩
 rw[←hzz] at HSUM ⊢
 clear hzz
 have D0:Below w.heap.size w w.drew:=(u _ _).drew
 go_enter Tryz.func66,Tryz.ntmps66
 go_wp2_with fail
 go_region_held3 (fun w'=>w'.cell? ⟨xb,0,none⟩=some (.bool xn)∧w'.cell? ⟨xb,1,none⟩=some (H xa xl xc)∧w'.cell? ⟨yb,0,none⟩=some (.bool yn)∧w'.cell? ⟨yb,1,none⟩=some (H ya yl yc))
  (first
    | exact S2
    | exact S1
    | exact⟨p0,p1,q0,q1⟩
    | go_keep)
  (first
    | (go_at_call 103;refine(HSUM.out _ D0).mono ?_;rintro e u1 ⟨⟨rn,ra,rl,rc,rs,rfl,g1,g2,g3,g4,g5,g6⟩,h1⟩;have k1:Below w.heap.size w u1:=D0.trans h1;have HG1:=aa g1;have HG5:=aa g5;have HG6:=aa g6;have HG4:=aa g4;have HG2:=aa g2;have HG3:=aa g3;clear g1 g2 g3 g4 g5 g6;have S1:u1.cell? ⟨xb,0,none⟩=some (.bool xn)∧u1.cell? ⟨xb,1,none⟩=some (H xa xl xc)∧u1.cell? ⟨yb,0,none⟩=some (.bool yn)∧u1.cell? ⟨yb,1,none⟩=some (H ya yl yc):=⟨(k1.cell (p:=⟨xb,0,none⟩) hxb).trans p0,(k1.cell (p:=⟨xb,1,none⟩) hxb).trans p1,(k1.cell (p:=⟨yb,0,none⟩) hyb).trans q0,(k1.cell (p:=⟨yb,1,none⟩) hyb).trans q1⟩)
    | (go_at_call 102;refine(gh zb z0 v0 rn ra rl rc u1 ((k1.block zb hzb).trans HZC.out) (by have:=HG1.out.2.1;omega)).mono ?_;rintro e u2 ⟨rfl,m1,m2,m3,m4⟩;have S2:u2.cell? ⟨xb,0,none⟩=some (.bool xn)∧u2.cell? ⟨xb,1,none⟩=some (H xa xl xc)∧u2.cell? ⟨yb,0,none⟩=some (.bool yn)∧u2.cell? ⟨yb,1,none⟩=some (H ya yl yc):=⟨(World.cell?_of_block (a:=⟨xb,0,none⟩) (m3 xb hxz)).trans S1.1,(World.cell?_of_block (a:=⟨xb,1,none⟩) (m3 xb hxz)).trans S1.2.1,(World.cell?_of_block (a:=⟨yb,0,none⟩) (m3 yb hyz)).trans S1.2.2.1,(World.cell?_of_block (a:=⟨yb,1,none⟩) (m3 yb hyz)).trans S1.2.2.2⟩))
 all_goals
  go_wp2_with fail
  go_ret
  refine⟨rfl,iB HG1.out HG2.out HG3.out HG4.out HG5.out HG6.out m1 m2 m3 ?_,(k1.mono (Nat.le_of_lt hzb)).trans m4⟩
  exact jG k1 hzb HZC.out hv0 HG1.out
theorem oL:∀(ws:List Nat) (i r v:Nat),ws[i]? = some r→vW (ws.set i v)+4294967296 ^ i*r=vW ws+4294967296 ^ i*v
 | [],i,r,v,h=>by simp at h
 | x::ws,0,r,v,h=>by
   simp at h
   subst h
   simp[vW]
   omega
 | x::ws,i+1,r,v,h=>by
   have h1:=oL ws i r v (by simpa using h)
   have e:∀t,4294967296 ^ i*4294967296*t=4294967296*(4294967296 ^ i*t):=fun t=>by rw[Nat.mul_comm (4294967296 ^ i),ν]
   simp only[List.set_cons_succ,vW,θ]
   rw[e,e]
   generalize 4294967296 ^ i*r=A at h1 ⊢
   generalize 4294967296 ^ i*v=C at h1 ⊢
   omega
theorem sk {V V' V0 p cc x y r lo hi Bi Yj Bj:Nat} (hp:p=Bi*Bj) (hv:V+p*cc=V0+Bi*(x*Yj)) (hs:V'+p*r=V+p*lo) (h:lo+4294967296*hi=cc+(x*y+r)):V'+p*4294967296*hi=V0+Bi*(x*(Yj+Bj*y)):=by
 have h1:p*(lo+4294967296*hi)=p*(cc+(x*y+r)):=by rw[h]
 have h2:Bi*(x*(Yj+Bj*y))=Bi*(x*Yj)+p*(x*y):=by
  rw[hp,κ,κ,Nat.mul_left_comm x Bj y,ν]
 have h3:p*(4294967296*hi)=p*4294967296*hi:=(ν _ _ _).symm
 rw[κ,κ,κ,h3] at h1
 rw[h2]
 generalize p*(x*y)=A at h1 ⊢
 generalize p*4294967296*hi=C at h1 ⊢
 generalize p*lo=D at h1 hs
 generalize p*r=E at h1 hs
 generalize p*cc=F at h1 hv
 generalize Bi*(x*Yj)=G at hv ⊢
 omega
theorem m9:∀n:Nat,vW (μ n 0)=0
 | 0=>rfl
 | n+1=>by rw[List.replicate_succ,vW,m9 n]
theorem nj {rs:List Nat} {k v m x:Nat} (h:rs[m]? = some x) (hn:k≠m):(rs.set k v)[m]? = some x:=by
 rw[List.getElem?_set_ne hn]
 exact h
theorem uK {x y:Nat} (hx:x<4294967296) (hy:y<4294967296):x*y≤18446744065119617025:=by
 have:=Nat.mul_le_mul (Nat.le_pred_of_lt hx) (Nat.le_pred_of_lt hy)
 simpa using this
theorem mul_pos (xs ys:List Nat) (a:Option Addr) (la ca:Nat) (b:Option Addr) (lb cb:Nat) (w:World) (hA:WAt w xs a la) (hB:WAt w ys b lb) (h100:la≤100) (h100b:lb≤100) (hpa:0<la) (hpb:0<lb) :
 Calls Tryz.prog 104 #[H a la ca,H b lb cb] w fun e w'=>di w' (vW xs*vW ys) e∧Below w.heap.size w w':=by
 have HXL:=aa hA.1
 have HYL:=aa hB.1
 have HXW:=aa hA.2.2.1
 have HYW:=aa hB.2.2.1
 obtain⟨ab,ao,ha,hab,hac⟩:=hA.2.2.2 hpa
 obtain⟨bb,bo,hb,hbb,hbc⟩:=hB.2.2.2 hpb
 subst ha hb
 have HAC:=aa hac
 have HBC:=aa hbc
 clear hA hB hac hbc
 obtain⟨iu,hi0,hiz,his,hib⟩:=iw
 have HI0:=aa hi0
 have HIZ:=aa hiz
 have HIS:=aa his
 obtain⟨N,hN⟩:∃N:Nat,N=la+lb:=⟨_,rfl⟩
 have hN':(la:Int)+(lb:Int)=(N:Int):=by omega
 have hN2:N≤200:=by omega
 have HN:=aa hN
 have HB4:iu.bytes*N≤281474976710656:=by rw[hib];omega
 have HB5:N≤maxLen:=by unfold maxLen;omega
 clear hi0 hiz his hib hN
 obtain⟨S,hS⟩:∃S,S=vW xs*vW ys:=⟨_,rfl⟩
 rw[←hS]
 have HS:=aa hS
 clear hS
 have hla0:((la:Int)==0)=false:=by simp;omega
 have hlb0:((lb:Int)==0)=false:=by simp;omega
 go_enter Tryz.func104,Tryz.ntmps104
 go_wp2_with (at_make;refine wpList_make_full _ rfl _ _ 96 rfl w.heap.size 155 iu _ 1 Tryz.underlying96 HI0.out HIZ.out HIS.out .i64 .i64 (N:Int) (N:Int) N rfl rfl (by omega) (by omega) HB4 HB5 (f _) ?_)
 intro w1 hown hgrow
 have b1:Below w.heap.size w w1:=(u _ _).grown hgrow (f _) (fun k hk=>by cases hk)
 rw[toList_madeCells_one] at hown
 have hown':w1.ownsRow w.heap.size 155 1 (H (some ⟨w.heap.size,0,none⟩) N N) N (eM (μ N 0)):=by
  rw[eM,χ]
  exact hown
 have HOWN1:=aa hown'
 have HB1:=aa b1
 clear hown hown' hgrow b1 HB4 HB5
 go_wp2_with fail
 go_loopg [6,7,8] la (fun g s6 s7 s8 wr=>∃(i:Nat) (rs:List Nat),i≤la∧la-i≤g∧s6=J M i∧rs.length=N∧dM rs∧wr.ownsRow w.heap.size 155 1 (H (some ⟨w.heap.size,0,none⟩) N N) N (eM rs)∧Below w.heap.size w wr∧vW rs=vW (xs.take i)*vW ys∧∀k,i+lb≤k→k<N→rs[k]? = some 0)
 case atStart=>exact⟨0,μ N 0,ψ _,by omega,rfl,by simp,(fun x hx=>by rw[σ hx];decide),HOWN1.out,HB1.out,by rw[m9];simp[vW],fun k _ hk=>by rw[List.getElem?_replicate,if_pos hk]⟩
 case round=>
  clear HOWN1 HB1
  obtain⟨i,rs0,hi,hg,rfl,hrl,hrw,hown,hbw,hv,hz⟩:=hrel
  have HRL0:=aa hrl
  have HRW0:=aa hrw
  have HOWN0:=aa hown
  have HBW0:=aa hbw
  have HV0:=aa hv
  have HZ0:=aa hz
  clear hrl hrw hown hbw hv hz
  by_cases hlt:i<la
  ·obtain⟨x,hx,_⟩:=aF (L:=xs) (i:=i) (by have:=HXL.out;omega)
   have hx32:x<4294967296:=HXW.out x (List.mem_of_getElem? hx)
   have HX:=aa hx
   clear hx
   have hlt':(i:Int)<la:=by omega
   go_wp2_with fail
   go_loopg [7,8] lb (fun g s7 s8 wq=>∃(j cc:Nat) (rs:List Nat),j≤lb∧lb-j≤g∧s7=J .u64 cc∧s8=J M j∧cc<4294967296∧rs.length=N∧dM rs∧wq.ownsRow w.heap.size 155 1 (H (some ⟨w.heap.size,0,none⟩) N N) N (eM rs)∧Below w.heap.size w wq∧vW rs+4294967296 ^ (i+j)*cc=vW rs0+4294967296 ^ i*(x*vW (ys.take j))∧∀k,i+lb≤k→k<N→rs[k]? = some 0)
   case atStart=>exact⟨0,0,rs0,ψ _,by omega,rfl,rfl,by omega,HRL0.out,HRW0.out,HOWN0.out,HBW0.out,by simp[vW],HZ0.out⟩
   case round=>
    clear HRL0 HRW0 HOWN0 HBW0 HZ0
    rename_i wo _ _ _
    obtain⟨j,cc,rs,hj,hgj,rfl,rfl,hcc,hrl,hrw,hown,hbw,hv,hz⟩:=hrel
    have HRL:=aa hrl
    have HRW:=aa hrw
    have HOWN:=aa hown
    have HBW:=aa hbw
    have HV:=aa hv
    have HZ:=aa hz
    clear hrl hrw hown hbw hv hz
    by_cases hjt:j<lb
    ·obtain⟨y,hy,_⟩:=aF (L:=ys) (i:=j) (by have:=HYL.out;omega)
     have hy32:y<4294967296:=HYW.out y (List.mem_of_getElem? hy)
     obtain⟨k,hk⟩:∃k:Nat,k=i+j:=⟨_,rfl⟩
     have hk':(i:Int)+(j:Int)=(k:Int):=by omega
     have hkN:k<N:=by have:=HN.out;omega
     have HK:=aa hk
     obtain⟨r,hr,_⟩:=aF (L:=rs) (i:=k) (by have:=HRL.out;omega)
     have hr32:r<4294967296:=HRW.out r (List.mem_of_getElem? hr)
     have d0:=(HBW.out.cell (p:=⟨ab,ao+i,none⟩) hab).trans (HAC.out i x HX.out)
     have d1:=(HBW.out.cell (p:=⟨bb,bo+j,none⟩) hbb).trans (HBC.out j y hy)
     have e0:=dQ HOWN.out hr
     have f0:=HOWN.out.frozenAt k
     obtain⟨p,hp⟩:∃p:Nat,p=x*y:=⟨_,rfl⟩
     have hp':(x:Int)*(y:Int)=(p:Int):=by rw[hp,Int.natCast_mul]
     have hpl:p≤18446744065119617025:=by rw[hp];exact uK hx32 hy32
     have HP:=aa hp
     have HY:=aa hy
     have HR:=aa hr
     have hw1:IntKind.u64.wrap (p:Int)=p:=by rw[wrap64];omega
     have hw2:IntKind.u64.wrap ((p:Int)+(r:Int))=(p:Int)+(r:Int):=by rw[wrap64];omega
     have hw3:IntKind.u64.wrap ((cc:Int)+((p:Int)+(r:Int)))=(cc:Int)+((p:Int)+(r:Int)):=by rw[wrap64];omega
     have hw4:IntKind.i64.wrap (k:Int)=k:=by rw[IntKind.wrap_i64];omega
     have hjt':(j:Int)<lb:=by omega
     have hkN':(k:Int)<N:=by omega
     clear hk hp hy hr
     go_wp2_with fail
     go_quiet (fail)
     go_wp2_with fail
     go_roundg (lb-(j+1))
     case measure=>omega
     case rel=>
      have hst:=fun q=>((show(wr.drewN q).ownsRow w.heap.size 155 1 (H (some ⟨w.heap.size,0,none⟩) N N) N (eM rs) from HOWN.out).stored k (J .u32 ((((cc+(p+r)) % 4294967296:Nat)):Int))).1
      simp only[dt] at hst
      have hbw:=HBW.out
      refine⟨j+1,(cc+(p+r)) / 4294967296,rs.set k ((cc+(p+r)) % 4294967296),by omega,by omega,by rw[show((cc:Int)+((p:Int)+(r:Int))) / 4294967296=(((cc+(p+r)) / 4294967296:Nat):Int) from by omega],by go_num,by omega,by rw[η];exact HRL.out,HRW.out.set (by omega),?_,?_,?_,?_⟩
      ·rw[show((cc:Int)+((p:Int)+(r:Int))) % 4294967296=(((cc+(p+r)) % 4294967296:Nat):Int) from by omega]
       exact hst _
      ·exact(below_drewN hbw _).setCell (p:=⟨w.heap.size,k,none⟩) (f _) _
      ·have hs:=oL rs k r ((cc+(p+r)) % 4294967296) HR.out
       rw[HK.out] at hs ⊢
       rw[bB HY.out,←Nat.add_assoc i j 1,θ]
       refine sk (ω _ _ _) HV.out hs ?_
       rw[←HP.out]
       omega
      ·intro m hm hmN
       exact nj (HZ.out m hm hmN) (by have:=HK.out;omega)
    ·have hjl:j=lb:=by omega
     subst hjl
     obtain⟨k,hk⟩:∃k:Nat,k=i+j:=⟨_,rfl⟩
     have hk':(i:Int)+(j:Int)=(k:Int):=by omega
     have hkN:k<N:=by have:=HN.out;omega
     have hr:=HZ.out k (by omega) hkN
     have HK:=aa hk
     have HR:=aa hr
     have e0:=dQ HOWN.out hr
     have f0:=HOWN.out.frozenAt k
     have hkN':(k:Int)<N:=by omega
     clear hk hr
     go_wp2_with fail
     go_roundg (la-(i+1))
     case measure=>omega
     case rel=>
      have hst:=(HOWN.out.stored k (J .u32 ((cc:Nat):Int))).1
      simp only[dt] at hst
      have hbw:=HBW.out
      refine⟨i+1,rs.set k cc,by omega,by omega,by go_num,by rw[η];exact HRL.out,HRW.out.set (by omega),hst,?_,?_,?_⟩
      ·exact hbw.setCell (p:=⟨w.heap.size,k,none⟩) (f _) _
      ·have hs:=oL rs k 0 cc HR.out
       rw[HK.out,Nat.mul_zero,Nat.add_zero,HV.out,γ (by have:=HYL.out;omega),HV0.out] at hs
       rw[HK.out,hs,bB HX.out,Nat.add_mul,ν]
      ·intro m hm hmN
       exact nj (HZ.out m (by omega) hmN) (by have:=HK.out;omega)
  ·have hil:i=la:=by omega
   subst hil
   obtain⟨hwat,hwc1,hwc2⟩:=fl HOWN0.out HRW0.out (by omega)
   have HTR:=aa (fV rs0 (some ⟨w.heap.size,0,none⟩) N N _ hwat hwc1 hwc2 (fun h=>by cases h))
   have HVV:=aa (show vW rs0=S by
    rw[HV0.out,γ (by have:=HXL.out;omega),HS.out])
   clear hwat hwc1 hwc2
   go_wp2_with fail
   refine HTR.out.mono ?_
   rintro e w2 ⟨⟨n,hn,rfl,h1,h2,h3⟩,rfl⟩
   have hnl:n≤N:=by have:=HRL0.out;omega
   have HE:=aa (show di w2 S (β (H (some ⟨w.heap.size,0,none⟩) n N)) from⟨_,n,N,_,rfl,h1,hnl,by omega,(fun h=>by cases h),h2.trans HVV.out,h3⟩)
   clear h1 h2 h3 HTR
   go_wp2_with fail
   go_ret
   exact⟨HE.out,HBW0.out⟩
theorem qC (w:World) {v:Nat} (h:v=0):di w v (β (H none 0 0)):=
 ⟨none,0,0,[],rfl,⟨rfl,by omega,(fun x hx=>by cases hx),fun h=>by omega⟩,f _,by omega,fun _=>rfl,by rw[h];rfl,fun m x hm _=>by simp at hm⟩
theorem tD (xs ys:List Nat) (a:Option Addr) (la ca:Nat) (b:Option Addr) (lb cb:Nat) (w:World) (hA:WAt w xs a la) (hB:WAt w ys b lb) (h100:la≤100) (h100b:lb≤100) :
 Calls Tryz.prog 104 #[H a la ca,H b lb cb] w fun e w'=>di w' (vW xs*vW ys) e∧Below w.heap.size w w':=by
 by_cases h1:0<la
 ·by_cases h2:0<lb
  ·exact mul_pos xs ys a la ca b lb cb w hA hB h100 h100b h1 h2
  ·have h0:lb=0:=by omega
   subst h0
   have hla0:((la:Int)==0)=false:=by simp;omega
   have HE:=aa (qC w (v:=vW xs*vW ys) (by rw[List.length_eq_zero_iff.1 hB.1.symm];simp[vW]))
   clear hA hB
   go_enter Tryz.func104,Tryz.ntmps104
   go_wp2_with fail
   go_ret
   exact⟨HE.out,u _ _⟩
 ·have h0:la=0:=by omega
  subst h0
  have HE:=aa (qC w (v:=vW xs*vW ys) (by rw[List.length_eq_zero_iff.1 hA.1.symm];simp[vW]))
  clear hA hB
  go_enter Tryz.func104,Tryz.ntmps104
  go_wp2_with fail
  go_ret
  exact⟨HE.out,u _ _⟩
theorem tC (zb xb yb:Nat) (z0:Bool) (v0:Value) (x y:Int) (w:World) (hz:w.heap[zb]? = some (Z #[.bool z0,v0] 98 (0,0))) (hv0:∀x:Nat,v0≠J .u32 (x:Int)) (hx:ci w xb x) (hy:ci w yb y) (hbx:-9223372036854775808≤x∧x≤9223372036854775807) (hby:-9223372036854775808≤y∧y≤9223372036854775807) (hxz:xb≠zb) (hyz:yb≠zb) :
 Calls Tryz.prog 67 #[ε (some ⟨zb,0,none⟩),ε (some ⟨xb,0,none⟩),ε (some ⟨yb,0,none⟩)] w fun e w'=>e=β (ε (some ⟨zb,0,none⟩))∧ci w' zb (x*y)∧Below zb w w':=by
 obtain⟨xn,xa,xl,xc,xs,hxc,hxw,hx1,hx2,hx3,hxt,hxv,_⟩:=hx
 obtain⟨yn,ya,yl,yc,ys,hyc,hyw,hy1,hy2,hy3,hyt,hyv,_⟩:=hy
 have hxl:xl≤2:=by rw[hxw.1];exact fw hxt (by rw[hxv] at hbx;split at hbx<;>omega)
 have hyl:yl≤2:=by rw[hyw.1];exact fw hyt (by rw[hyv] at hby;split at hby<;>omega)
 have HSUM:Hid (∀W,Below w.heap.size w W→Calls Tryz.prog 104 #[H xa xl xc,H ya yl yc] W fun e w'=>di w' (vW xs*vW ys) e∧Below W.heap.size W w'):=fun W k=>tD xs ys xa xl xc ya yl yc W (hxw.below k) (hyw.below k) (by omega) (by omega)
 have HZV:=aa (show x*y=sgn (xn != yn) (vW xs*vW ys) by rw[hxv,hyv];unfold sgn;cases xn<;>cases yn<;>simp[Int.neg_mul,Int.mul_neg])
 generalize vW xs*vW ys=pv at HSUM HZV
 have p0:=ac hxc 0
 have p1:=ac hxc 1
 have q0:=ac hyc 0
 have q1:=ac hyc 1
 simp at p0 p1 q0 q1
 have hxb:xb<w.heap.size:=(Array.getElem?_eq_some_iff.1 hxc).1
 have hyb:yb<w.heap.size:=(Array.getElem?_eq_some_iff.1 hyc).1
 have hzb:zb<w.heap.size:=(Array.getElem?_eq_some_iff.1 hz).1
 have HZC:=aa hz
 clear hxc hyc hxw hyw hx1 hx2 hx3 hy1 hy2 hy3 hxt hyt hxv hyv hz hbx hby
 obtain⟨zz,hzz⟩:∃zz,zz=x*y:=⟨_,rfl⟩
 rw[←hzz] at HZV ⊢
 clear hzz
 have D0:Below w.heap.size w w.drew:=(u _ _).drew
 go_enter Tryz.func67,Tryz.ntmps67
 go_wp2_with fail
 go_region_held3 (fun w'=>w'.cell? ⟨xb,0,none⟩=some (.bool xn)∧w'.cell? ⟨xb,1,none⟩=some (H xa xl xc)∧w'.cell? ⟨yb,0,none⟩=some (.bool yn)∧w'.cell? ⟨yb,1,none⟩=some (H ya yl yc))
  (first
    | exact S2
    | exact S1
    | exact⟨p0,p1,q0,q1⟩
    | go_keep)
  (first
    | (go_at_call 104;refine(HSUM.out _ D0).mono ?_;rintro e u1 ⟨⟨ra,rl,rc,rs,rfl,g1,g2,g3,g4,gv,g5⟩,h1⟩;have g6:zz=sgn (xn != yn) (vW rs):=(gv▸HZV.out);have k1:Below w.heap.size w u1:=D0.trans h1;have HG1:=aa g1;have HG5:=aa g5;have HG6:=aa g6;clear gv;have HG4:=aa g4;have HG2:=aa g2;have HG3:=aa g3;clear g1 g2 g3 g4 g5 g6;have S1:u1.cell? ⟨xb,0,none⟩=some (.bool xn)∧u1.cell? ⟨xb,1,none⟩=some (H xa xl xc)∧u1.cell? ⟨yb,0,none⟩=some (.bool yn)∧u1.cell? ⟨yb,1,none⟩=some (H ya yl yc):=⟨(k1.cell (p:=⟨xb,0,none⟩) hxb).trans p0,(k1.cell (p:=⟨xb,1,none⟩) hxb).trans p1,(k1.cell (p:=⟨yb,0,none⟩) hyb).trans q0,(k1.cell (p:=⟨yb,1,none⟩) hyb).trans q1⟩)
    | (go_at_call 102;refine(gh zb z0 v0 (xn != yn) ra rl rc u1 ((k1.block zb hzb).trans HZC.out) (by have:=HG1.out.2.1;omega)).mono ?_;rintro e u2 ⟨rfl,m1,m2,m3,m4⟩;have S2:u2.cell? ⟨xb,0,none⟩=some (.bool xn)∧u2.cell? ⟨xb,1,none⟩=some (H xa xl xc)∧u2.cell? ⟨yb,0,none⟩=some (.bool yn)∧u2.cell? ⟨yb,1,none⟩=some (H ya yl yc):=⟨(World.cell?_of_block (a:=⟨xb,0,none⟩) (m3 xb hxz)).trans S1.1,(World.cell?_of_block (a:=⟨xb,1,none⟩) (m3 xb hxz)).trans S1.2.1,(World.cell?_of_block (a:=⟨yb,0,none⟩) (m3 yb hyz)).trans S1.2.2.1,(World.cell?_of_block (a:=⟨yb,1,none⟩) (m3 yb hyz)).trans S1.2.2.2⟩))
 all_goals
  go_wp2_with fail
  go_ret
  refine⟨rfl,iB HG1.out HG2.out HG3.out HG4.out HG5.out HG6.out m1 m2 m3 ?_,(k1.mono (Nat.le_of_lt hzb)).trans m4⟩
  exact jG k1 hzb HZC.out hv0 HG1.out
def mW (v n:Nat):Prop:=v<2 ^ n∧(0<n→2 ^ (n-1)≤v)
theorem rg {ws:List Nat} {m x n:Nat} (hw:dM ws) (hm:ws.length=m+1) (hx:ws[m]? = some x) (h:mW x n) (hx0:x≠0):mW (vW ws) (m*32+n):=by
 have h1:vW ws=vW (ws.take m)+4294967296 ^ m*x:=by
  rw[←bB hx,γ (by omega)]
 have h2:vW (ws.take m)<4294967296 ^ m:=by
  have:=lq (ws.take m) (fun y hy=>hw y (List.mem_of_mem_take hy))
  rwa [ρ,Nat.min_eq_left (by omega)] at this
 have h3:(4294967296:Nat) ^ m=2 ^ (m*32):=by rw[Nat.mul_comm,Nat.pow_mul]
 have hn:0<n:=by
  rcases Nat.eq_zero_or_pos n with h0 | h0
  ·subst h0;have:=h.1;simp at this;omega
  ·exact h0
 rw[h3] at h1 h2
 obtain⟨g1,g2⟩:=h
 have g3:=g2 hn
 refine⟨?_,fun _=>?_⟩
 ·rw[h1,ω]
  have:2 ^ (m*32)*(x+1)≤2 ^ (m*32)*2 ^ n:=φ _ g1
  rw[κ,Nat.mul_one] at this
  omega
 ·rw[h1,show m*32+n-1=m*32+(n-1) by omega,ω]
  have:2 ^ (m*32)*2 ^ (n-1)≤2 ^ (m*32)*x:=φ _ g3
  omega
theorem wN {x n t:Nat} (h:t=x / 2 ^ n):t / 2=x / 2 ^ (n+1):=by
 rw[h,Nat.div_div_eq_div_mul,θ]
theorem pj (ws:List Nat) (a:Option Addr) (l c:Nat) (w:World) (h:WAt w ws a l) (ht:cN ws) :
 Calls Tryz.prog 105 #[H a l c] w fun e w'=>(∃n:Nat,e=β (J M n)∧mW (vW ws) n∧n≤100000)∧w'=w:=by
 have hl2:=h.2.1
 by_cases h0:l=0
 ·subst h0
  have HE:=aa (show mW (vW ws) 0 by rw[List.length_eq_zero_iff.1 h.1.symm];exact⟨by decide,fun h=>by omega⟩)
  clear h ht
  go_enter Tryz.func105,Tryz.ntmps105
  go_wp2_with fail
  go_ret
  exact⟨⟨0,rfl,HE.out,by omega⟩,rfl⟩
 ·obtain⟨m,rfl⟩:∃m,l=m+1:=⟨l-1,by omega⟩
  obtain⟨b,off,ha,hb,hc⟩:=h.2.2.2 (by omega)
  subst ha
  obtain⟨x,hx⟩:∃x,ws[m]? = some x:=⟨ws[m]'(by have:=h.1;omega),List.getElem?_eq_getElem _⟩
  have hx0:x≠0:=ht m x h.1.symm hx
  have hx32:x<4294967296:=h.2.2.1 x (List.mem_of_getElem? hx)
  have d0:=hc m x hx
  have fin:Hid (∀n,mW x n→mW (vW ws) (m*32+n)):=fun n hn=>rg h.2.2.1 h.1.symm hx hn hx0
  clear h ht hc hx
  go_enter Tryz.func105,Tryz.ntmps105
  go_wp2_with fail
  go_loopg [3,4] 32 (fun g s3 s4 wr=>∃n t:Nat,n≤32∧32-n≤g∧s3=J M n∧s4=J .u32 t∧t<4294967296∧wr=w∧t=x / 2 ^ n∧(0<n→2 ^ (n-1)≤x))
  case atStart=>exact⟨0,x,by omega,by omega,rfl,rfl,hx32,rfl,by simp,fun h=>by omega⟩
  case round=>
   obtain⟨n,t,hn,hg,rfl,rfl,ht32,rfl,ht,hp⟩:=hrel
   have HT:=aa ht
   have HP:=aa hp
   clear ht hp
   by_cases ht0:t=0
   ·subst ht0
    have HF:=aa (fin.out n ⟨by
     have h1:=HT.out
     rcases ι x (2 ^ n) with h2 | h2
     ·exact h2
     ·have:=Nat.div_pos h2 (Nat.two_pow_pos n)
      omega,HP.out⟩)
    clear fin
    go_wp2_with fail
    go_ret
    exact⟨⟨m*32+n,ag (by go_num),HF.out,by omega⟩,rfl⟩
   ·have ht0':((t:Int) != 0)=true:=by simp[ht0]
    have HL:=aa (show 2 ^ n≤x by
     have h1:=HT.out
     rcases ι x (2 ^ n) with h2 | h2
     ·rw[Nat.div_eq_of_lt h2] at h1
      exact absurd h1 ht0
     ·exact h2)
    have hn32:n<32:=by
     rcases ι n 32 with h1 | h1
     ·exact h1
     ·have:=ξ (n:=2) (by omega) h1
      have:=HL.out
      have e:(2:Nat) ^ 32=4294967296:=by decide
      omega
    clear ht0
    go_wp2_with fail
    go_roundg (32-(n+1))
    case measure=>omega
    case rel=>exact⟨n+1,t / 2,by omega,by omega,by go_num,by first | rfl | (congr 1;omega),by omega,rfl,wN HT.out,fun _=>HL.out⟩
theorem rX {x y:Nat} (hx:x<4294967296) (hy:y<4294967296):bits .or .u64 (x:Int) ((y:Int)*4294967296)=((x+4294967296*y:Nat):Int):=by
 have h1:=u64_or_nat x (y*4294967296) (by omega) (by omega)
 have h2:=nat_join 32 (y*4294967296) x (by omega) (by simpa using hx)
 rw[Nat.or_comm,h2] at h1
 rw[show((y:Int)*4294967296)=((y*4294967296:Nat):Int) by simp,h1]
 omega
theorem oM (ib:Nat) (neg:Bool) (ws:List Nat) (a:Option Addr) (l c:Nat) (w:World) (hb:w.heap[ib]? = some (Z #[.bool neg,H a l c] 98 (0,0))) (h:WAt w ws a l) (hl:l≤2) :
 Calls Tryz.prog 107 #[ε (some ⟨ib,0,none⟩)] w fun e w'=>e=β (J .u64 (vW ws:Nat))∧w'=w:=by
 have p1:=ac hb 1
 simp at p1
 have hl1:=h.1
 rcases ws with _ | ⟨x,_ | ⟨y,_ | ⟨z,r⟩⟩⟩
 ·simp at hl1
  subst hl1
  clear h hb
  go_enter Tryz.func107,Tryz.ntmps107
  go_wp2_with fail
  go_ret
  exact⟨rfl,rfl⟩
 ·simp at hl1
  subst hl1
  obtain⟨b,off,ha,hbb,hc⟩:=h.2.2.2 (by omega)
  subst ha
  have d0:=hc 0 x rfl
  simp at d0
  have hx:x<4294967296:=h.2.2.1 x (by simp)
  have HV:=aa (show vW [x]=x by simp[vW])
  clear h hb hc
  go_enter Tryz.func107,Tryz.ntmps107
  go_wp2_with fail
  go_ret
  exact⟨by rw[HV.out];rfl,rfl⟩
 ·simp at hl1
  subst hl1
  obtain⟨b,off,ha,hbb,hc⟩:=h.2.2.2 (by omega)
  subst ha
  have d0:=hc 0 x rfl
  have d1:=hc 1 y rfl
  simp at d0 d1
  have hx:x<4294967296:=h.2.2.1 x (by simp)
  have hy:y<4294967296:=h.2.2.1 y (by simp)
  have ho:=rX hx hy
  obtain⟨v,hv⟩:∃v,v=x+4294967296*y:=⟨_,rfl⟩
  rw[←hv] at ho
  have HV:=aa (show vW [x,y]=v by rw[hv];simp[vW])
  clear h hb hc hv
  go_enter Tryz.func107,Tryz.ntmps107
  go_wp2_with fail
  go_ret
  exact⟨by rw[HV.out];rfl,rfl⟩
 ·simp at hl1;omega
theorem jc (ib:Nat) (z:Int) (w:World) (h:ci w ib z) (hz:-9223372036854775808≤z∧z≤9223372036854775807) :
 Calls Tryz.prog 69 #[ε (some ⟨ib,0,none⟩)] w fun e w'=>e=β (J M z)∧w'=w:=by
 obtain⟨neg,a,l,c,ws,hb,hw,h1,h2,h3,ht,hzv,hn⟩:=h
 have hl:l≤2:=by rw[hw.1];exact fw ht (by rw[hzv] at hz;split at hz<;>omega)
 have HU:=aa (oM ib neg ws a l c w hb hw hl)
 have p0:=ac hb 0
 simp at p0
 clear hb hw h1 h2 h3 ht hn hl
 generalize vW ws=v at HU hzv
 cases neg with
 | false=>
   simp at hzv
   subst hzv
   have hw:IntKind.i64.wrap (v:Int)=v:=by rw[IntKind.wrap_i64];omega
   go_enter Tryz.func69,Tryz.ntmps69
   go_wp2_with fail
   refine HU.out.mono ?_
   rintro e w1 ⟨rfl,rfl⟩
   go_wp2_with fail
   go_ret
   exact⟨rfl,rfl⟩
 | true=>
   simp at hzv
   have hw:Go.RowKit.wrap64 (-(Go.RowKit.wrap64 (v:Int)))=z:=by unfold Go.RowKit.wrap64;omega
   clear hzv
   go_enter Tryz.func69,Tryz.ntmps69
   go_wp2_with fail
   refine HU.out.mono ?_
   rintro e w1 ⟨rfl,rfl⟩
   go_wp2_with fail
   go_ret
   exact⟨by first | rfl | exact congrArg (fun q=>Ending.returned (J M q)) hw,rfl⟩
theorem qB (ws:List Nat) (a:Option Addr) (l c i q r x:Nat) (w:World) (h:WAt w ws a l) (hi:i=32*q+r) (hr:r<32) (hx:ws[q]? = some x) :
 Calls Tryz.prog 129 #[H a l c,J M i] w fun e w'=>e=β (J .u64 ((x / 2 ^ r % 2:Nat)))∧Below w.heap.size w w':=by
 have hl2:=h.2.1
 have hq:q<l:=by have:=(List.getElem?_eq_some_iff.1 hx).1;have:=h.1;omega
 obtain⟨b,off,ha,hb,hc⟩:=h.2.2.2 (by omega)
 subst ha
 have d0:=hc q x hx
 have hx32:x<4294967296:=h.2.2.1 x (List.mem_of_getElem? hx)
 have hi2:i<32000:=by omega
 have hq1:(i:Int) / 32=(q:Int):=by omega
 have hq2:Int.tdiv (i:Int) 32=(q:Int):=by rw[Int.tdiv_eq_ediv_of_nonneg (by omega)];omega
 have hr1:(i:Int) % 32=(r:Int):=by omega
 have hr2:Int.tmod (i:Int) 32=(r:Int):=by rw[Int.tmod_eq_emod_of_nonneg (by omega)];omega
 have hql:¬(l:Int)≤q:=by omega
 have hql2:(q:Int)<l:=by omega
 obtain⟨t,ht⟩:∃t:Nat,t=x / 2 ^ r:=⟨_,rfl⟩
 have htl:t<4294967296:=by rw[ht];exact Nat.lt_of_le_of_lt (Nat.div_le_self _ _) hx32
 have htd:(x:Int) / 2 ^ r=(t:Int):=by rw[ht];simp
 have htw:IntKind.u64.wrap (t:Int)=t:=by rw[wrap64];omega
 have hta:bits .and .u64 (t:Int) 1=((t % 2:Nat):Int):=by
  have:=u64_and_nat t 1 (by omega) (by omega)
  rw[nat_mask1] at this
  exact this
 rw[←ht]
 obtain⟨t2,ht2⟩:∃t2:Nat,t2=t % 2:=⟨_,rfl⟩
 rw[←ht2] at hta ⊢
 clear h hc hx hi ht ht2
 go_enter Tryz.func129,Tryz.ntmps129
 go_wp2_with fail
 go_ret
 exact⟨rfl,u _ _⟩
theorem t9 {x y n:Nat} (hn:n<32):(x+4294967296*y) / 2 ^ n % 2=x / 2 ^ n % 2:=by
 obtain⟨k,hk⟩:∃k,k+1+n=32:=⟨31-n,by omega⟩
 have e:(4294967296:Nat)*y=2 ^ n*(2*(2 ^ k*y)):=by
  rw[show(4294967296:Nat)=2 ^ (k+1+n) by rw[hk],ω,θ,Nat.mul_comm (2 ^ k*2) (2 ^ n),Nat.mul_comm (2 ^ k) 2,ν,ν]
 rw[e,Nat.add_mul_div_left _ _ (Nat.two_pow_pos n)]
 omega
theorem sQ {x y r:Nat} (hx:x<4294967296):(x+4294967296*y) / 2 ^ (32*1+r)=y / 2 ^ r:=by
 rw[ω,←Nat.div_div_eq_div_mul,show(2:Nat) ^ (32*1)=4294967296 by rfl]
 congr 1
 omega
theorem sm {v n:Nat} (h:v % 2 ^ n=0) (h2:v / 2 ^ n % 2=0):v % 2 ^ (n+1)=0:=by
 rw[θ,Nat.mod_mul,h,h2,Nat.mul_zero]
theorem qH (ib:Nat) (neg:Bool) (x y:Nat) (a:Option Addr) (c:Nat) (w:World) (hb:w.heap[ib]? = some (Z #[.bool neg,H a 2 c] 98 (0,0))) (h:WAt w [x,y] a 2) (hv:9223372036854775808≤x+4294967296*y) :
 Calls Tryz.prog 106 #[ε (some ⟨ib,0,none⟩)] w fun e w'=>(∃n:Nat,n≤63∧e=β (J .u64 n)∧(n=63 ↔ x+4294967296*y=9223372036854775808))∧Below w.heap.size w w':=by
 have hx:x<4294967296:=h.2.2.1 x (by simp)
 have hy:y<4294967296:=h.2.2.1 y (by simp)
 have p1:=ac hb 1
 simp at p1
 have hib:ib<w.heap.size:=(Array.getElem?_eq_some_iff.1 hb).1
 obtain⟨v,hvv⟩:∃v,v=x+4294967296*y:=⟨_,rfl⟩
 have hv64:v<18446744073709551616:=by omega
 have HBIT:Hid (∀(n:Nat) (W:World),n<64→Below w.heap.size w W→Calls Tryz.prog 129 #[H a 2 c,J M n] W fun e w'=>e=β (J .u64 ((v / 2 ^ n % 2:Nat)))∧Below W.heap.size W w'):=by
  intro n W hn k
  by_cases h32:n<32
  ·rw[hvv,t9 h32]
   exact qB [x,y] a 2 c n 0 n x W (h.below k) (by omega) h32 rfl
  ·obtain⟨r,rfl⟩:∃r,n=32*1+r:=⟨n-32,by omega⟩
   rw[hvv,sQ hx]
   exact qB [x,y] a 2 c (32*1+r) 1 r y W (h.below k) rfl (by omega) rfl
 rw[←hvv] at hv ⊢
 clear h hb hvv hx hy
 go_enter Tryz.func106,Tryz.ntmps106
 go_wp2_with fail
 go_loopg [3] 64 (fun g s3 wr=>∃n:Nat,n≤63∧64-n≤g∧s3=J .u64 n∧Below w.heap.size w wr∧v % 2 ^ n=0)
 case atStart=>exact⟨0,by omega,by omega,rfl,u _ _,by simp[Nat.mod_one]⟩
 case round=>
  obtain⟨n,hn,hg,rfl,hbw,hm⟩:=hrel
  have HBW:=aa hbw
  have HM:=aa hm
  have p2:=(HBW.out.cell (p:=⟨ib,1,none⟩) hib).trans p1
  have HC:=aa (HBIT.out n wr (by omega) HBW.out)
  clear hbw hm
  by_cases hbit:v / 2 ^ n % 2=0
  ·have HM2:=aa (sm HM.out hbit)
   rw[hbit] at HC
   have hn63:n<63:=by
    rcases ι n 63 with h1 | h1
    ·exact h1
    ·obtain rfl:n=63:=by omega
     have:=HM2.out
     rw[show(2:Nat) ^ (63+1)=18446744073709551616 by rfl,Nat.mod_eq_of_lt hv64] at this
     omega
   clear hbit
   go_wp2_with fail
   refine HC.out.mono ?_
   rintro e w1 ⟨rfl,k1⟩
   have HB2:=aa (af HBW.out k1)
   clear k1
   go_wp2_with fail
   go_roundg (64-(n+1))
   case measure=>omega
   case rel=>exact⟨n+1,by omega,by omega,by go_num,HB2.out,HM2.out⟩
  ·have hb1:v / 2 ^ n % 2=1:=by omega
   have HF:=aa (show n=63 ↔ v=9223372036854775808 by
    constructor
    ·rintro rfl
     have:=HM.out
     rw[show(2:Nat) ^ 63=9223372036854775808 by rfl] at this
     omega
    ·rintro rfl
     rcases ι n 63 with h1 | h1
     ·exfalso
      obtain⟨k,hk⟩:∃k,k+1+n=63:=⟨62-n,by omega⟩
      rw[show(9223372036854775808:Nat)=2 ^ (k+1+n) by rw[hk],ω,Nat.mul_div_cancel _ (Nat.two_pow_pos n),θ,Nat.mul_mod_left] at hb1
      omega
     ·omega)
   rw[hb1] at HC
   clear hbit hb1
   go_wp2_with fail
   refine HC.out.mono ?_
   rintro e w1 ⟨rfl,k1⟩
   have HB2:=aa (af HBW.out k1)
   clear k1
   go_wp2_with fail
   go_ret
   exact⟨⟨n,hn,rfl,HF.out⟩,HB2.out⟩
theorem tG {v n:Nat} (h:mW v n) (hv:v<9223372036854775808):n<64:=by
 rcases ι n 64 with h1 | h1
 ·exact h1
 ·have h2:=h.2 (by omega)
  have h3:=ξ (n:=2) (by omega) (show 63≤n-1 by omega)
  rw[show(2:Nat) ^ 63=9223372036854775808 by rfl] at h3
  omega
theorem qd {v n:Nat} (h:mW v n) (hv:9223372036854775808≤v):64≤n:=by
 rcases ι n 64 with h1 | h1
 ·have h3:=ξ (n:=2) (by omega) (show n≤63 by omega)
  rw[show(2:Nat) ^ 63=9223372036854775808 by rfl] at h3
  have:=h.1
  omega
 ·exact h1
theorem tF {v n:Nat} (h:mW v n) (hn:n=64):v<18446744073709551616:=by
 subst hn
 exact h.1
theorem qN {ws:List Nat} (h:cN ws) (hw:dM ws) (h1:9223372036854775808≤vW ws) (h2:vW ws<18446744073709551616):∃x y,ws = [x,y]:=by
 rcases ws with _ | ⟨x,_ | ⟨y,_ | ⟨z,r⟩⟩⟩
 ·simp[vW] at h1
 ·have:=hw x (by simp)
  simp[vW] at h1
  omega
 ·exact⟨x,y,rfl⟩
 ·exfalso
  have:=eE (xs:=[4294967295,4294967295]) (fun x hx=>by simp at hx;omega) h (by simp)
  have e:vW [4294967295,4294967295]=18446744073709551615:=by decide
  omega
theorem gf (ib:Nat) (z:Int) (w:World) (h:ci w ib z) :
 Calls Tryz.prog 68 #[ε (some ⟨ib,0,none⟩)] w fun e w'=>e=β (.bool (decide (-9223372036854775808≤z∧z≤9223372036854775807)))∧Below w.heap.size w w':=by
 obtain⟨neg,a,l,c,ws,hb,hw,h1,h2,h3,ht,hzv,hn⟩:=h
 have HLEN:=aa (pj ws a l c w hw ht)
 have p0:=ac hb 0
 have p1:=ac hb 1
 simp at p0 p1
 obtain⟨R,hR⟩:∃R,R=decide (-9223372036854775808≤z∧z≤9223372036854775807):=⟨_,rfl⟩
 rw[←hR]
 have HT:Hid (9223372036854775808≤vW ws→vW ws<18446744073709551616→Calls Tryz.prog 106 #[ε (some ⟨ib,0,none⟩)] w fun e w'=>(∃n:Nat,n≤63∧e=β (J .u64 n)∧(n=63 ↔ vW ws=9223372036854775808))∧Below w.heap.size w w'):=by
  intro g1 g2
  obtain⟨x,y,rfl⟩:=qN ht hw.2.2.1 g1 g2
  have hl:l=2:=hw.1
  subst hl
  have e:vW [x,y]=x+4294967296*y:=by simp[vW]
  rw[e] at g1 ⊢
  exact qH ib neg x y a c w hb hw g1
 clear hb hw h1 h2 h3 ht hn
 generalize vW ws=v at HLEN HT hzv
 by_cases hv:v<9223372036854775808
 ·have hRt:R=true:=by rw[hR,decide_eq_true_eq,hzv];split<;>omega
  subst hRt
  clear HT hzv hR
  go_enter Tryz.func68,Tryz.ntmps68
  go_wp2_with fail
  refine HLEN.out.mono ?_
  rintro e w1 ⟨⟨n,rfl,hL,hn⟩,rfl⟩
  have hn64:(n:Int)<64:=by have:=tG hL hv;omega
  clear hL hv HLEN
  go_wp2_with fail
  go_ret
  exact⟨rfl,u _ _⟩
 ·by_cases hn64:v<18446744073709551616∧neg=true
  ·obtain⟨hv2,rfl⟩:=hn64
   have HT2:=aa (HT.out (by omega) hv2)
   have HR:=aa (show R=decide (v=9223372036854775808) by rw[hR,hzv];simp;omega)
   clear HT hzv hR
   go_enter Tryz.func68,Tryz.ntmps68
   go_wp2_with fail
   refine HLEN.out.mono ?_
   rintro e w1 ⟨⟨n,rfl,hL,hn⟩,rfl⟩
   have hn64:n=64:=by
    have h1:=qd hL (by omega)
    rcases ι 64 n with h2 | h2
    ·have h3:=hL.2 (by omega)
     have h4:=ξ (n:=2) (by omega) (show 64≤n-1 by omega)
     rw[show(2:Nat) ^ 64=18446744073709551616 by rfl] at h4
     omega
    ·omega
   subst hn64
   clear hL HLEN
   go_wp2_with fail
   refine HT2.out.mono ?_
   rintro e w2 ⟨⟨m,hm,rfl,hiff⟩,k2⟩
   have HRR:=aa (show((m:Int)==63)=R by rw[HR.out,Bool.eq_iff_iff];simp;omega)
   clear hiff HR HT2
   go_wp2_with fail
   go_ret
   exact⟨by rw[←HRR.out];rfl,k2⟩
  ·have hRf:R=false:=by rw[hR,decide_eq_false_iff_not,hzv];split<;>simp_all<;>omega
   subst hRf
   clear HT hzv hR
   go_enter Tryz.func68,Tryz.ntmps68
   go_wp2_with fail
   refine HLEN.out.mono ?_
   rintro e w1 ⟨⟨n,rfl,hL,hn⟩,rfl⟩
   have hg:¬(n:Int)<64:=by have:=qd hL (by omega);omega
   by_cases he:n=64
   ·have hnf:neg=false:=by
     have:=tF hL he
     cases neg
     ·rfl
     ·exact absurd ⟨this,rfl⟩ hn64
    subst hnf he
    clear hL hn64 HLEN
    go_wp2_with fail
    go_ret
    exact⟨rfl,u _ _⟩
   ·have he':((n:Int)==64)=false:=by simp;omega
    clear hL hn64 HLEN
    go_wp2_with fail
    go_ret
    have hd:decide ((n:Int)<64)=false:=by simp;omega
    exact⟨congrArg (fun q=>Ending.returned (.bool q)) hd,u _ _⟩
def pk (ops:Array Oper) (listed:Array Bool):Nat:=(List.range ops.size).countP fun i=>!listed.getD i true
theorem lZ {α:Type} {p q:α→Bool}:∀{l:List α} {x:α},x ∈ l→(∀y,q y=true→p y=true)→p x=true→q x=false→l.countP q+1≤l.countP p
 | [],_,h,_,_,_=>by cases h
 | y::l,x,h,hqp,hp,hq=>by
   have mono:l.countP q≤l.countP p:=List.countP_mono_left (fun z _=>hqp z)
   rcases List.mem_cons.1 h with rfl | h
   ·rw[List.countP_cons,List.countP_cons,hp,hq]
    simp
    exact mono
   ·have:=lZ h hqp hp hq
    rw[List.countP_cons,List.countP_cons]
    by_cases h1:q y=true
    ·simp[h1,hqp y h1];omega
    ·have h1':q y=false:=by simpa using h1
     simp[h1'];split<;>omega
theorem vE {P:Program} {md:Region.Mode} {ops:Array Oper} {Q:Exit→Act→World→Prop} (I:Array Bool→Act→World→Prop)
 (hstep:∀listed a w,I listed a w→∀i o,ops[i]? = some o→listed.getD i true=false→(∀e ∈ o.after,Region.binds md e=true→listed.getD e.on false=true)→wpOp P ops Q i (fun a' w'=>I (listed.setIfInBounds i true) a' w') a w)
 (hend:∀listed a w,I listed a w→(∀i,i<ops.size→listed.getD i true=true)→Q .normal a w)
 (hready:∀listed:Array Bool,Region.ready md ops listed = []→∀i,i<ops.size→listed.getD i true=true) :
 ∀(fuel:Nat) (listed:Array Bool) (a:Act) (w:World),pk ops listed≤fuel→I listed a w→wpAny P md ops Q fuel listed a w:=by
 intro fuel
 induction fuel with
 | zero=>
   intro listed a w hf hI
   have hr:Region.ready md ops listed = []:=by
    cases h:Region.ready md ops listed with
    | nil=>rfl
    | cons i l=>
      have hi:i ∈ Region.ready md ops listed:=by rw[h];exact List.mem_cons_self ..
      obtain⟨h0,o,ho,_⟩:=mem_ready.1 hi
      have hlt:i<ops.size:=(Array.getElem?_eq_some_iff.1 ho).1
      have:0<pk ops listed:=List.countP_pos_iff.2 ⟨i,List.mem_range.2 hlt,by simp[h0]⟩
      omega
   exact⟨hr,hend listed a w hI (hready listed hr)⟩
 | succ fuel ih=>
   intro listed a w hf hI
   refine⟨fun hr=>hend listed a w hI (hready listed hr),fun i hi=>?_⟩
   obtain⟨h0,o,ho,hall⟩:=mem_ready.1 hi
   have hlt:i<ops.size:=(Array.getElem?_eq_some_iff.1 ho).1
   refine wpOp_mono (fun a' w' h=>ih _ a' w' ?_ h) (hstep listed a w hI i o ho h0 hall)
   have:=lZ (p:=fun j=>!listed.getD j true) (q:=fun j=>!(listed.setIfInBounds i true).getD j true) (List.mem_range.2 hlt) (fun j hj=>by
    by_cases hij:i=j
    ·subst hij
     simp[h0]
    ·rw[getD_set_ne true hij] at hj
     exact hj) (by simp[h0]) (by
     have hl:i<listed.size:=by
      rcases ι i listed.size with h' | h'
      ·exact h'
      ·simp[Array.getElem?_eq_none h'] at h0
     simp[hl])
   unfold pk at hf ⊢
   omega
theorem ux {P:Program} {ops:Array Oper} {Q:Exit→Act→World→Prop} {i:Nat} {o:Oper} {K:Act→World→Prop} {a:Act} {w:World} (ho:ops[i]? = some o) (hg:o.guard=none) (h:∀K':Act→World→Prop,(∀a w,K a w→K' a w)→Oper.wp P o a w K' Q):wpOp P ops Q i K a w:=
 wpOp_step ho (fun K' hK=>by rw[if_pos (by simp[Region.wanted,hg])];exact h K' hK)
theorem vL {md:Region.Mode} {ops:Array Oper} (h:((List.range ops.size).all fun i=>((ops[i]?).map (·.after.all fun e=>!Region.binds md e||decide (e.on<i))).getD true)=true) (listed:Array Bool) (hr:Region.ready md ops listed = []):∀i,i<ops.size→listed.getD i true=true:=by
 intro i
 induction i using Nat.strongRecOn with
 | _ i ih=>
 intro hi
 cases hl:listed.getD i true with
 | true=>rfl
 | false=>
   exfalso
   obtain⟨o,ho⟩:∃o,ops[i]? = some o:=⟨ops[i],Array.getElem?_eq_getElem hi⟩
   have h1:=List.all_eq_true.1 h i (List.mem_range.2 hi)
   rw[ho] at h1
   simp only[Option.map_some,Option.getD_some,Array.all_eq_true_iff_forall_mem,Bool.or_eq_true,Bool.not_eq_true',decide_eq_true_eq] at h1
   have hm:i ∈ Region.ready md ops listed:=mem_ready.2 ⟨hl,o,ho,fun e he hb=>by
    have h2:e.on<i:=(h1 e he).resolve_left (by simp[hb])
    have h3:=ih e.on h2 (by omega)
    have hlt:e.on<listed.size:=by
     have:i<listed.size:=by
      rcases ι i listed.size with h' | h'
      ·exact h'
      ·simp[Array.getElem?_eq_none h'] at hl
     omega
    simp[hlt] at h3 ⊢
    exact h3⟩
   rw[hr] at hm
   cases hm
theorem ci.lt {w:World} {ib:Nat} {z:Int} (h:ci w ib z):ib<w.heap.size:=by
 obtain⟨_,_,_,_,_,hb,_⟩:=h
 exact(Array.getElem?_eq_some_iff.1 hb).1
theorem ci.below {w w':World} {ib:Nat} {z:Int} (k:Below w.heap.size w w') (h:ci w ib z):ci w' ib z:=by
 have hlt:=h.lt
 obtain⟨neg,a,l,c,ws,hb,hw,h1,h2,h3,ht,hzv,hn⟩:=h
 exact⟨neg,a,l,c,ws,(k.block ib hlt).trans hb,hw.below k,h1,h2,h3,ht,hzv,hn⟩
theorem uh (x:Int) (w:World) (hx:-9223372036854775808≤x∧x≤9223372036854775807) :
 Calls Tryz.prog 64 #[J M x] w fun e w'=>∃p,e=β (ε (some ⟨p,0,none⟩))∧w.heap.size≤p∧ci w' p x∧Below w.heap.size w w':=
 (dD x w hx).mono fun e w' h=>⟨_,h.1,f _,h.2.1,h.2.2⟩
def mV (W:World) (a b:Int) (s8 s9 s10:Value) (wx:World):Prop:=
 ∃px py pz,s8=ε (some ⟨px,0,none⟩)∧s9=ε (some ⟨py,0,none⟩)∧s10=ε (some ⟨pz,0,none⟩)∧ci wx px a∧ci wx py b∧wx.heap[pz]? = some (Z #[.bool false,H none 0 0] 98 (0,0))∧px≠pz∧py≠pz∧W.heap.size≤pz∧Below W.heap.size W wx
theorem three_alloc (w:World) (o1 o2 o3:Obj):(((w.alloc o1).alloc o2).alloc o3).heap[w.heap.size]? = some o1∧(((w.alloc o1).alloc o2).alloc o3).heap[w.heap.size+1]? = some o2∧(((w.alloc o1).alloc o2).alloc o3).heap[w.heap.size+2]? = some o3:=by
 refine⟨?_,?_,?_⟩
 ·rw[Below.heap_alloc _ _ _ (by simp;omega),Below.heap_alloc _ _ _ (by simp)]
  exact ae w o1
 ·rw[Below.heap_alloc _ _ _ (by simp)]
  exact ay w o1 o2
 ·have:=ae ((w.alloc o1).alloc o2) o3
  simpa using this
theorem set4_here {w:World} {b:Nat} {t:TypeId} {x0 x1 x2 x3:Value} (h:w.heap[b]? = some (Z #[x0,x1,x2,x3] t (0,0))) (v0 v1 v2 v3:Value):((((w.setCell ⟨b,0,none⟩ v0).setCell ⟨b,1,none⟩ v1).setCell ⟨b,2,none⟩ v2).setCell ⟨b,3,none⟩ v3).heap[b]? = some (Z #[v0,v1,v2,v3] t (0,0)):=by
 simp[World.setCell,Array.getElem?_modify,h]
theorem gy {w:World} {b:Nat} {o:Obj} (h:w.heap[b]? = some o):b<w.heap.size:=(Array.getElem?_eq_some_iff.1 h).1
theorem reckonOf_add (a b:Int) (s1 s2:ByteArray) (a1 a2:Option Addr) (l1 c1 l2 c2:Nat) (w:World) (ha:-9223372036854775808≤a∧a≤9223372036854775807) (hb:-9223372036854775808≤b∧b≤9223372036854775807) :
 Calls Tryz.prog 31 #[O ⟨#[43]⟩,ζ #[J M 2,J M a,O s1,H a1 l1 c1],ζ #[J M 2,J M b,O s2,H a2 l2 c2]] w fun e w'=>((-9223372036854775808≤a+b∧a+b≤9223372036854775807→e=β (δ #[ζ #[J M 2,J M (a+b),O ⟨#[]⟩,H none 0 0],J M 0]))∧(¬(-9223372036854775808≤a+b∧a+b≤9223372036854775807)→e=β (δ #[ζ #[J M 0,J M 0,O ⟨#[]⟩,H none 0 0],J M 4])))∧Below w.heap.size w w':=by
 have HA:Hid (∀U,Calls Tryz.prog 64 #[J M a] U fun e w'=>e=β (ε (some ⟨U.heap.size,0,none⟩))∧ci w' U.heap.size a∧Below U.heap.size U w'):=fun U=>dD a U ha
 have HBb:Hid (∀U,Calls Tryz.prog 64 #[J M b] U fun e w'=>e=β (ε (some ⟨U.heap.size,0,none⟩))∧ci w' U.heap.size b∧Below U.heap.size U w'):=fun U=>dD b U hb
 have HRA:=aa ha
 have HRB:=aa hb
 clear ha hb
 have b0:Below w.heap.size w (((w.alloc (Z #[J M 2,J M a,O s1,H a1 l1 c1] 30)).alloc (Z #[J M 2,J M b,O s2,H a2 l2 c2] 30)).alloc (Z #[J M 0,J M 0,O ⟨#[]⟩,H none 0 0] 30)):=(((u _ _).alloc (f _) _).alloc (by simp) _).alloc (by simp;omega) _
 obtain⟨q1,q2,q3⟩:=three_alloc w (Z #[J M 2,J M a,O s1,H a1 l1 c1] 30) (Z #[J M 2,J M b,O s2,H a2 l2 c2] 30) (Z #[J M 0,J M 0,O ⟨#[]⟩,H none 0 0] 30)
 have z0:(((w.alloc (Z #[J M 2,J M a,O s1,H a1 l1 c1] 30)).alloc (Z #[J M 2,J M b,O s2,H a2 l2 c2] 30)).alloc (Z #[J M 0,J M 0,O ⟨#[]⟩,H none 0 0] 30)).heap.size=w.heap.size+3:=by simp
 have HB0:=aa b0
 have HQ1:=aa q1
 have HQ2:=aa q2
 have HQ3:=aa q3
 have HZ0:=aa z0
 clear b0 q1 q2 q3 z0
 obtain⟨z,hz⟩:∃z,z=a+b:=⟨_,rfl⟩
 rw[←hz]
 have HZZ:=aa hz
 clear hz
 go_enter Tryz.func31,Tryz.ntmps31
 go_upto_region 6 with fail
 generalize (((w.alloc (Z #[J M 2,J M a,O s1,H a1 l1 c1] 30)).alloc (Z #[J M 2,J M b,O s2,H a2 l2 c2] 30)).alloc (Z #[J M 0,J M 0,O ⟨#[]⟩,H none 0 0] 30))=W at HB0 HQ1 HQ2 HQ3 HZ0 ⊢
 have HS:Hid (∀W':World,Below W.heap.size W W'→W'.cell? ⟨w.heap.size,1,none⟩=some (J M a)∧W'.cell? ⟨w.heap.size+1,1,none⟩=some (J M b)):=fun W' kk=>
  ⟨(kk.cell (p:=⟨w.heap.size,1,none⟩) (by rw[HZ0.out];show w.heap.size<_;omega)).trans (ac HQ1.out 1),(kk.cell (p:=⟨w.heap.size+1,1,none⟩) (by rw[HZ0.out];show w.heap.size+1<_;omega)).trans (ac HQ2.out 1)⟩
 obtain⟨x0,x1⟩:=HS.out W (u _ _)
 have D0:Below W.heap.size W W.drew:=(u _ _).drew
 go_cut [8,9,10] (fun s8 s9 s10 wx=>mV W a b s8 s9 s10 wx)
 case first=>
  go_region_held3 (fun W'=>W'.cell? ⟨w.heap.size,1,none⟩=some (J M a)∧W'.cell? ⟨w.heap.size+1,1,none⟩=some (J M b))
   (first
     | with_reducible exact HS.out _ k2
     | with_reducible exact HS.out _ k1
     | with_reducible exact HS.out _ D0
     | with_reducible exact HS.out _ (k2.alloc k2.size _)
     | with_reducible exact HS.out _ (k1.alloc k1.size _)
     | with_reducible exact HS.out _ (D0.alloc (f _) _)
     | go_keep)
   (first
     | (go_at_call 64;go_fit (HBb.out u1);rintro e u2 ⟨rfl,i2,h2⟩;have k2:Below W.heap.size W u2:=k1.trans (h2.mono k1.size);have j2:Below u1.heap.size u1 u2:=h2)
     | (go_at_call 64;go_fit (HBb.out (u1.alloc (Z #[.bool false,H none 0 0] 98)));rintro e u2 ⟨rfl,i2,h2⟩;have k2:Below W.heap.size W u2:=(k1.alloc k1.size _).trans (h2.mono (Nat.le_trans k1.size (by simp)));have j2:Below u1.heap.size u1 u2:=((u _ _).alloc (f _) _).trans (h2.mono (by simp));have hp:u2.heap[u1.heap.size]? = some (Z #[.bool false,H none 0 0] 98 (0,0)):=(h2.block u1.heap.size (by simp)).trans (ae u1 (Z #[.bool false,H none 0 0] 98)))
     | (go_at_call 64;go_fit (HA.out W.drew);rintro e u1 ⟨rfl,i1,h1⟩;have k1:Below W.heap.size W u1:=D0.trans h1)
     | (go_at_call 64;go_fit (HA.out (W.drew.alloc (Z #[.bool false,H none 0 0] 98)));rintro e u1 ⟨rfl,i1,h1⟩;have k1:Below W.heap.size W u1:=(D0.alloc (f _) _).trans (h1.mono (by simp));have hq:u1.heap[W.heap.size]? = some (Z #[.bool false,H none 0 0] 98 (0,0)):=(h1.block W.heap.size (by simp)).trans (ae W.drew (Z #[.bool false,H none 0 0] 98))))
  all_goals
   go_wp2_with fail
   go_meet
   have t1:=h1.size
   have t2:=h2.size
   have r1:=i1.lt
   have r2:=i2.lt
   try simp at t1
   try simp at t2
  ·have kA:Below u2.heap.size u2 (u2.alloc (Z #[.bool false,H none 0 0] 98)):=(u _ _).alloc (f _) _
   exact⟨_,_,u2.heap.size,rfl,rfl,rfl,(i1.below j2).below kA,i2.below kA,ae u2 (Z #[.bool false,H none 0 0] 98),by simp at r1 ⊢;omega,by simp at r2 ⊢;omega,k2.size,k2.alloc k2.size _⟩
  ·have e:(u1.alloc (Z #[.bool false,H none 0 0] 98)).heap.size=u1.heap.size+1:=by simp
   rw[e] at i2
   exact⟨_,_,u1.heap.size,rfl,rfl,rfl,i1.below j2,i2,hp,by simp at r1 ⊢;omega,by omega,k1.size,k2⟩
  ·have e:(W.drew.alloc (Z #[.bool false,H none 0 0] 98)).heap.size=W.heap.size+1:=by simp
   rw[e] at i1
   exact⟨_,_,W.heap.size,rfl,rfl,rfl,i1.below j2,i2,(j2.block W.heap.size (gy hq)).trans hq,by omega,by have:=gy hq;omega,f _,k2⟩
 case rest=>
  obtain⟨px,py,pz,rfl,rfl,rfl,ix,iy,hzb,hxz,hyz,hpz,kx⟩:=hcut
  have HADD:=aa (ua pz px py false (H none 0 0) a b wc hzb (fun x h=>by cases h) ix iy HRA.out HRB.out hxz hyz)
  have HRR:=aa ((kx.block (w.heap.size+2) (by rw[HZ0.out];omega)).trans HQ3.out)
  have HKX:=aa (HB0.out.trans (kx.mono HB0.out.size))
  have spz:w.heap.size+3≤pz:=by rw[HZ0.out] at hpz;exact hpz
  have swc:w.heap.size+3≤wc.heap.size:=by have:=kx.size;rw[HZ0.out] at this;exact this
  clear ix iy hzb hxz hyz hpz kx x0 x1 D0 HS HA HBb
  rw[←HZZ.out] at HADD
  go_wp2_with fail
  refine HADD.out.mono ?_
  rintro e w1 ⟨rfl,iz,k1⟩
  have HIZ:=aa iz
  have HR1:=aa ((k1.block (w.heap.size+2) (by omega)).trans HRR.out)
  have HK1:=aa (HKX.out.trans (k1.mono (by omega)))
  have HIS:=aa (gf pz z w1 iz)
  clear iz k1 HADD
  go_wp2_with fail
  refine HIS.out.mono ?_
  rintro e w2 ⟨rfl,k2⟩
  have s1:w.heap.size+2<w1.heap.size:=(Array.getElem?_eq_some_iff.1 HR1.out).1
  have hr2:=(k2.block (w.heap.size+2) s1).trans HR1.out
  have HK2:=aa (HK1.out.trans (k2.mono HK1.out.size))
  have HIZ2:=aa (HIZ.out.below k2)
  have HR2:=aa hr2
  have r0:=ac hr2 0
  have r1:=ac hr2 1
  have r2:=ac hr2 2
  have r3:=ac hr2 3
  have f0:=aj hr2 0
  have f1:=aj hr2 1
  have f2:=aj hr2 2
  have f3:=aj hr2 3
  simp at r0 r1 r2 r3
  have s2:w.heap.size+2<w2.heap.size:=(Array.getElem?_eq_some_iff.1 hr2).1
  clear hr2 k2 HIS
  by_cases hin:-9223372036854775808≤z∧z≤9223372036854775807
  ·have hd:decide (-9223372036854775808≤z∧z≤9223372036854775807)=true:=by simp[hin]
   have HIN:=aa hin
   have HI64:=aa (jc pz z w2 HIZ2.out hin)
   clear hin
   generalize decide (-9223372036854775808≤z∧z≤9223372036854775807)=dd at hd ⊢
   subst hd
   go_wp2_with fail
   refine HI64.out.mono ?_
   rintro e w3 ⟨rfl,rfl⟩
   go_wp2_with fail
   have E:=set4_here (b:=w.heap.size+1+1) HR2.out (J M 2) (J M z) (O ⟨#[]⟩) (H none 0 0)
   have hbb:Below w.heap.size w ((((w3.setCell ⟨w.heap.size+1+1,0,none⟩ (J M 2)).setCell ⟨w.heap.size+1+1,1,none⟩ (J M z)).setCell ⟨w.heap.size+1+1,2,none⟩ (O ⟨#[]⟩)).setCell ⟨w.heap.size+1+1,3,none⟩ (H none 0 0)):=(((HK2.out.setCell (p:=⟨w.heap.size+1+1,0,none⟩) (by show w.heap.size≤w.heap.size+1+1;omega) _).setCell (p:=⟨w.heap.size+1+1,1,none⟩) (by show w.heap.size≤w.heap.size+1+1;omega) _).setCell (p:=⟨w.heap.size+1+1,2,none⟩) (by show w.heap.size≤w.heap.size+1+1;omega) _).setCell (p:=⟨w.heap.size+1+1,3,none⟩) (by show w.heap.size≤w.heap.size+1+1;omega) _
   generalize ((((w3.setCell ⟨w.heap.size+1+1,0,none⟩ (J M 2)).setCell ⟨w.heap.size+1+1,1,none⟩ (J M z)).setCell ⟨w.heap.size+1+1,2,none⟩ (O ⟨#[]⟩)).setCell ⟨w.heap.size+1+1,3,none⟩ (H none 0 0))=Y at E hbb ⊢
   have t0:=ac E 0
   have t1:=ac E 1
   have t2:=ac E 2
   have t3:=ac E 3
   simp at t0 t1 t2 t3
   exact bodyPost_ret (v:=δ #[ζ #[J M 2,J M z,O ⟨#[]⟩,H none 0 0],J M 0]) (by simp[results,Tryz.results31,go_sem,t0,t1,t2,t3]) rfl ⟨⟨fun _=>rfl,fun h=>absurd HIN.out h⟩,hbb⟩
  ·have hd:decide (-9223372036854775808≤z∧z≤9223372036854775807)=false:=by simp only[decide_eq_false_iff_not];exact hin
   have HIN:=aa hin
   clear hin
   generalize decide (-9223372036854775808≤z∧z≤9223372036854775807)=dd at hd ⊢
   subst hd
   go_wp2_with fail
   have E:=set4_here (b:=w.heap.size+1+1) HR2.out (J M 0) (J M 0) (O ⟨#[]⟩) (H none 0 0)
   have hbb:Below w.heap.size w ((((w2.setCell ⟨w.heap.size+1+1,0,none⟩ (J M 0)).setCell ⟨w.heap.size+1+1,1,none⟩ (J M 0)).setCell ⟨w.heap.size+1+1,2,none⟩ (O ⟨#[]⟩)).setCell ⟨w.heap.size+1+1,3,none⟩ (H none 0 0)):=(((HK2.out.setCell (p:=⟨w.heap.size+1+1,0,none⟩) (by show w.heap.size≤w.heap.size+1+1;omega) _).setCell (p:=⟨w.heap.size+1+1,1,none⟩) (by show w.heap.size≤w.heap.size+1+1;omega) _).setCell (p:=⟨w.heap.size+1+1,2,none⟩) (by show w.heap.size≤w.heap.size+1+1;omega) _).setCell (p:=⟨w.heap.size+1+1,3,none⟩) (by show w.heap.size≤w.heap.size+1+1;omega) _
   generalize ((((w2.setCell ⟨w.heap.size+1+1,0,none⟩ (J M 0)).setCell ⟨w.heap.size+1+1,1,none⟩ (J M 0)).setCell ⟨w.heap.size+1+1,2,none⟩ (O ⟨#[]⟩)).setCell ⟨w.heap.size+1+1,3,none⟩ (H none 0 0))=Y at E hbb ⊢
   have t0:=ac E 0
   have t1:=ac E 1
   have t2:=ac E 2
   have t3:=ac E 3
   simp at t0 t1 t2 t3
   exact bodyPost_ret (v:=δ #[ζ #[J M 0,J M 0,O ⟨#[]⟩,H none 0 0],J M 4]) (by simp[results,Tryz.results31,go_sem,t0,t1,t2,t3]) rfl ⟨⟨fun h=>absurd h HIN.out,fun _=>rfl⟩,hbb⟩
theorem reckonOf_sub (a b:Int) (s1 s2:ByteArray) (a1 a2:Option Addr) (l1 c1 l2 c2:Nat) (w:World) (ha:-9223372036854775808≤a∧a≤9223372036854775807) (hb:-9223372036854775808≤b∧b≤9223372036854775807) :
 Calls Tryz.prog 31 #[O ⟨#[45]⟩,ζ #[J M 2,J M a,O s1,H a1 l1 c1],ζ #[J M 2,J M b,O s2,H a2 l2 c2]] w fun e w'=>((-9223372036854775808≤a-b∧a-b≤9223372036854775807→e=β (δ #[ζ #[J M 2,J M (a-b),O ⟨#[]⟩,H none 0 0],J M 0]))∧(¬(-9223372036854775808≤a-b∧a-b≤9223372036854775807)→e=β (δ #[ζ #[J M 0,J M 0,O ⟨#[]⟩,H none 0 0],J M 4])))∧Below w.heap.size w w':=by
 have HA:Hid (∀U,Calls Tryz.prog 64 #[J M a] U fun e w'=>e=β (ε (some ⟨U.heap.size,0,none⟩))∧ci w' U.heap.size a∧Below U.heap.size U w'):=fun U=>dD a U ha
 have HBb:Hid (∀U,Calls Tryz.prog 64 #[J M b] U fun e w'=>e=β (ε (some ⟨U.heap.size,0,none⟩))∧ci w' U.heap.size b∧Below U.heap.size U w'):=fun U=>dD b U hb
 have HRA:=aa ha
 have HRB:=aa hb
 clear ha hb
 have b0:Below w.heap.size w (((w.alloc (Z #[J M 2,J M a,O s1,H a1 l1 c1] 30)).alloc (Z #[J M 2,J M b,O s2,H a2 l2 c2] 30)).alloc (Z #[J M 0,J M 0,O ⟨#[]⟩,H none 0 0] 30)):=(((u _ _).alloc (f _) _).alloc (by simp) _).alloc (by simp;omega) _
 obtain⟨q1,q2,q3⟩:=three_alloc w (Z #[J M 2,J M a,O s1,H a1 l1 c1] 30) (Z #[J M 2,J M b,O s2,H a2 l2 c2] 30) (Z #[J M 0,J M 0,O ⟨#[]⟩,H none 0 0] 30)
 have z0:(((w.alloc (Z #[J M 2,J M a,O s1,H a1 l1 c1] 30)).alloc (Z #[J M 2,J M b,O s2,H a2 l2 c2] 30)).alloc (Z #[J M 0,J M 0,O ⟨#[]⟩,H none 0 0] 30)).heap.size=w.heap.size+3:=by simp
 have HB0:=aa b0
 have HQ1:=aa q1
 have HQ2:=aa q2
 have HQ3:=aa q3
 have HZ0:=aa z0
 clear b0 q1 q2 q3 z0
 obtain⟨z,hz⟩:∃z,z=a-b:=⟨_,rfl⟩
 rw[←hz]
 have HZZ:=aa hz
 clear hz
 go_enter Tryz.func31,Tryz.ntmps31
 go_upto_region 6 with fail
 generalize (((w.alloc (Z #[J M 2,J M a,O s1,H a1 l1 c1] 30)).alloc (Z #[J M 2,J M b,O s2,H a2 l2 c2] 30)).alloc (Z #[J M 0,J M 0,O ⟨#[]⟩,H none 0 0] 30))=W at HB0 HQ1 HQ2 HQ3 HZ0 ⊢
 have HS:Hid (∀W':World,Below W.heap.size W W'→W'.cell? ⟨w.heap.size,1,none⟩=some (J M a)∧W'.cell? ⟨w.heap.size+1,1,none⟩=some (J M b)):=fun W' kk=>
  ⟨(kk.cell (p:=⟨w.heap.size,1,none⟩) (by rw[HZ0.out];show w.heap.size<_;omega)).trans (ac HQ1.out 1),(kk.cell (p:=⟨w.heap.size+1,1,none⟩) (by rw[HZ0.out];show w.heap.size+1<_;omega)).trans (ac HQ2.out 1)⟩
 obtain⟨x0,x1⟩:=HS.out W (u _ _)
 have D0:Below W.heap.size W W.drew:=(u _ _).drew
 go_cut [8,9,10] (fun s8 s9 s10 wx=>mV W a b s8 s9 s10 wx)
 case first=>
  go_region_held3 (fun W'=>W'.cell? ⟨w.heap.size,1,none⟩=some (J M a)∧W'.cell? ⟨w.heap.size+1,1,none⟩=some (J M b))
   (first
     | with_reducible exact HS.out _ k2
     | with_reducible exact HS.out _ k1
     | with_reducible exact HS.out _ D0
     | with_reducible exact HS.out _ (k2.alloc k2.size _)
     | with_reducible exact HS.out _ (k1.alloc k1.size _)
     | with_reducible exact HS.out _ (D0.alloc (f _) _)
     | go_keep)
   (first
     | (go_at_call 64;go_fit (HBb.out u1);rintro e u2 ⟨rfl,i2,h2⟩;have k2:Below W.heap.size W u2:=k1.trans (h2.mono k1.size);have j2:Below u1.heap.size u1 u2:=h2)
     | (go_at_call 64;go_fit (HBb.out (u1.alloc (Z #[.bool false,H none 0 0] 98)));rintro e u2 ⟨rfl,i2,h2⟩;have k2:Below W.heap.size W u2:=(k1.alloc k1.size _).trans (h2.mono (Nat.le_trans k1.size (by simp)));have j2:Below u1.heap.size u1 u2:=((u _ _).alloc (f _) _).trans (h2.mono (by simp));have hp:u2.heap[u1.heap.size]? = some (Z #[.bool false,H none 0 0] 98 (0,0)):=(h2.block u1.heap.size (by simp)).trans (ae u1 (Z #[.bool false,H none 0 0] 98)))
     | (go_at_call 64;go_fit (HA.out W.drew);rintro e u1 ⟨rfl,i1,h1⟩;have k1:Below W.heap.size W u1:=D0.trans h1)
     | (go_at_call 64;go_fit (HA.out (W.drew.alloc (Z #[.bool false,H none 0 0] 98)));rintro e u1 ⟨rfl,i1,h1⟩;have k1:Below W.heap.size W u1:=(D0.alloc (f _) _).trans (h1.mono (by simp));have hq:u1.heap[W.heap.size]? = some (Z #[.bool false,H none 0 0] 98 (0,0)):=(h1.block W.heap.size (by simp)).trans (ae W.drew (Z #[.bool false,H none 0 0] 98))))
  all_goals
   go_wp2_with fail
   go_meet
   have t1:=h1.size
   have t2:=h2.size
   have r1:=i1.lt
   have r2:=i2.lt
   try simp at t1
   try simp at t2
  ·have kA:Below u2.heap.size u2 (u2.alloc (Z #[.bool false,H none 0 0] 98)):=(u _ _).alloc (f _) _
   exact⟨_,_,u2.heap.size,rfl,rfl,rfl,(i1.below j2).below kA,i2.below kA,ae u2 (Z #[.bool false,H none 0 0] 98),by simp at r1 ⊢;omega,by simp at r2 ⊢;omega,k2.size,k2.alloc k2.size _⟩
  ·have e:(u1.alloc (Z #[.bool false,H none 0 0] 98)).heap.size=u1.heap.size+1:=by simp
   rw[e] at i2
   exact⟨_,_,u1.heap.size,rfl,rfl,rfl,i1.below j2,i2,hp,by simp at r1 ⊢;omega,by omega,k1.size,k2⟩
  ·have e:(W.drew.alloc (Z #[.bool false,H none 0 0] 98)).heap.size=W.heap.size+1:=by simp
   rw[e] at i1
   exact⟨_,_,W.heap.size,rfl,rfl,rfl,i1.below j2,i2,(j2.block W.heap.size (gy hq)).trans hq,by omega,by have:=gy hq;omega,f _,k2⟩
 case rest=>
  obtain⟨px,py,pz,rfl,rfl,rfl,ix,iy,hzb,hxz,hyz,hpz,kx⟩:=hcut
  have HADD:=aa (ti pz px py false (H none 0 0) a b wc hzb (fun x h=>by cases h) ix iy HRA.out HRB.out hxz hyz)
  have HRR:=aa ((kx.block (w.heap.size+2) (by rw[HZ0.out];omega)).trans HQ3.out)
  have HKX:=aa (HB0.out.trans (kx.mono HB0.out.size))
  have spz:w.heap.size+3≤pz:=by rw[HZ0.out] at hpz;exact hpz
  have swc:w.heap.size+3≤wc.heap.size:=by have:=kx.size;rw[HZ0.out] at this;exact this
  clear ix iy hzb hxz hyz hpz kx x0 x1 D0 HS HA HBb
  rw[←HZZ.out] at HADD
  go_wp2_with fail
  refine HADD.out.mono ?_
  rintro e w1 ⟨rfl,iz,k1⟩
  have HIZ:=aa iz
  have HR1:=aa ((k1.block (w.heap.size+2) (by omega)).trans HRR.out)
  have HK1:=aa (HKX.out.trans (k1.mono (by omega)))
  have HIS:=aa (gf pz z w1 iz)
  clear iz k1 HADD
  go_wp2_with fail
  refine HIS.out.mono ?_
  rintro e w2 ⟨rfl,k2⟩
  have s1:w.heap.size+2<w1.heap.size:=(Array.getElem?_eq_some_iff.1 HR1.out).1
  have hr2:=(k2.block (w.heap.size+2) s1).trans HR1.out
  have HK2:=aa (HK1.out.trans (k2.mono HK1.out.size))
  have HIZ2:=aa (HIZ.out.below k2)
  have HR2:=aa hr2
  have r0:=ac hr2 0
  have r1:=ac hr2 1
  have r2:=ac hr2 2
  have r3:=ac hr2 3
  have f0:=aj hr2 0
  have f1:=aj hr2 1
  have f2:=aj hr2 2
  have f3:=aj hr2 3
  simp at r0 r1 r2 r3
  have s2:w.heap.size+2<w2.heap.size:=(Array.getElem?_eq_some_iff.1 hr2).1
  clear hr2 k2 HIS
  by_cases hin:-9223372036854775808≤z∧z≤9223372036854775807
  ·have hd:decide (-9223372036854775808≤z∧z≤9223372036854775807)=true:=by simp[hin]
   have HIN:=aa hin
   have HI64:=aa (jc pz z w2 HIZ2.out hin)
   clear hin
   generalize decide (-9223372036854775808≤z∧z≤9223372036854775807)=dd at hd ⊢
   subst hd
   go_wp2_with fail
   refine HI64.out.mono ?_
   rintro e w3 ⟨rfl,rfl⟩
   go_wp2_with fail
   have E:=set4_here (b:=w.heap.size+1+1) HR2.out (J M 2) (J M z) (O ⟨#[]⟩) (H none 0 0)
   have hbb:Below w.heap.size w ((((w3.setCell ⟨w.heap.size+1+1,0,none⟩ (J M 2)).setCell ⟨w.heap.size+1+1,1,none⟩ (J M z)).setCell ⟨w.heap.size+1+1,2,none⟩ (O ⟨#[]⟩)).setCell ⟨w.heap.size+1+1,3,none⟩ (H none 0 0)):=(((HK2.out.setCell (p:=⟨w.heap.size+1+1,0,none⟩) (by show w.heap.size≤w.heap.size+1+1;omega) _).setCell (p:=⟨w.heap.size+1+1,1,none⟩) (by show w.heap.size≤w.heap.size+1+1;omega) _).setCell (p:=⟨w.heap.size+1+1,2,none⟩) (by show w.heap.size≤w.heap.size+1+1;omega) _).setCell (p:=⟨w.heap.size+1+1,3,none⟩) (by show w.heap.size≤w.heap.size+1+1;omega) _
   generalize ((((w3.setCell ⟨w.heap.size+1+1,0,none⟩ (J M 2)).setCell ⟨w.heap.size+1+1,1,none⟩ (J M z)).setCell ⟨w.heap.size+1+1,2,none⟩ (O ⟨#[]⟩)).setCell ⟨w.heap.size+1+1,3,none⟩ (H none 0 0))=Y at E hbb ⊢
   have t0:=ac E 0
   have t1:=ac E 1
   have t2:=ac E 2
   have t3:=ac E 3
   simp at t0 t1 t2 t3
   exact bodyPost_ret (v:=δ #[ζ #[J M 2,J M z,O ⟨#[]⟩,H none 0 0],J M 0]) (by simp[results,Tryz.results31,go_sem,t0,t1,t2,t3]) rfl ⟨⟨fun _=>rfl,fun h=>absurd HIN.out h⟩,hbb⟩
  ·have hd:decide (-9223372036854775808≤z∧z≤9223372036854775807)=false:=by simp only[decide_eq_false_iff_not];exact hin
   have HIN:=aa hin
   clear hin
   generalize decide (-9223372036854775808≤z∧z≤9223372036854775807)=dd at hd ⊢
   subst hd
   go_wp2_with fail
   have E:=set4_here (b:=w.heap.size+1+1) HR2.out (J M 0) (J M 0) (O ⟨#[]⟩) (H none 0 0)
   have hbb:Below w.heap.size w ((((w2.setCell ⟨w.heap.size+1+1,0,none⟩ (J M 0)).setCell ⟨w.heap.size+1+1,1,none⟩ (J M 0)).setCell ⟨w.heap.size+1+1,2,none⟩ (O ⟨#[]⟩)).setCell ⟨w.heap.size+1+1,3,none⟩ (H none 0 0)):=(((HK2.out.setCell (p:=⟨w.heap.size+1+1,0,none⟩) (by show w.heap.size≤w.heap.size+1+1;omega) _).setCell (p:=⟨w.heap.size+1+1,1,none⟩) (by show w.heap.size≤w.heap.size+1+1;omega) _).setCell (p:=⟨w.heap.size+1+1,2,none⟩) (by show w.heap.size≤w.heap.size+1+1;omega) _).setCell (p:=⟨w.heap.size+1+1,3,none⟩) (by show w.heap.size≤w.heap.size+1+1;omega) _
   generalize ((((w2.setCell ⟨w.heap.size+1+1,0,none⟩ (J M 0)).setCell ⟨w.heap.size+1+1,1,none⟩ (J M 0)).setCell ⟨w.heap.size+1+1,2,none⟩ (O ⟨#[]⟩)).setCell ⟨w.heap.size+1+1,3,none⟩ (H none 0 0))=Y at E hbb ⊢
   have t0:=ac E 0
   have t1:=ac E 1
   have t2:=ac E 2
   have t3:=ac E 3
   simp at t0 t1 t2 t3
   exact bodyPost_ret (v:=δ #[ζ #[J M 0,J M 0,O ⟨#[]⟩,H none 0 0],J M 4]) (by simp[results,Tryz.results31,go_sem,t0,t1,t2,t3]) rfl ⟨⟨fun h=>absurd h HIN.out,fun _=>rfl⟩,hbb⟩
theorem reckonOf_mul (a b:Int) (s1 s2:ByteArray) (a1 a2:Option Addr) (l1 c1 l2 c2:Nat) (w:World) (ha:-9223372036854775808≤a∧a≤9223372036854775807) (hb:-9223372036854775808≤b∧b≤9223372036854775807) :
 Calls Tryz.prog 31 #[O ⟨#[42]⟩,ζ #[J M 2,J M a,O s1,H a1 l1 c1],ζ #[J M 2,J M b,O s2,H a2 l2 c2]] w fun e w'=>((-9223372036854775808≤a*b∧a*b≤9223372036854775807→e=β (δ #[ζ #[J M 2,J M (a*b),O ⟨#[]⟩,H none 0 0],J M 0]))∧(¬(-9223372036854775808≤a*b∧a*b≤9223372036854775807)→e=β (δ #[ζ #[J M 0,J M 0,O ⟨#[]⟩,H none 0 0],J M 4])))∧Below w.heap.size w w':=by
 have HA:Hid (∀U,Calls Tryz.prog 64 #[J M a] U fun e w'=>e=β (ε (some ⟨U.heap.size,0,none⟩))∧ci w' U.heap.size a∧Below U.heap.size U w'):=fun U=>dD a U ha
 have HBb:Hid (∀U,Calls Tryz.prog 64 #[J M b] U fun e w'=>e=β (ε (some ⟨U.heap.size,0,none⟩))∧ci w' U.heap.size b∧Below U.heap.size U w'):=fun U=>dD b U hb
 have HRA:=aa ha
 have HRB:=aa hb
 clear ha hb
 have b0:Below w.heap.size w (((w.alloc (Z #[J M 2,J M a,O s1,H a1 l1 c1] 30)).alloc (Z #[J M 2,J M b,O s2,H a2 l2 c2] 30)).alloc (Z #[J M 0,J M 0,O ⟨#[]⟩,H none 0 0] 30)):=(((u _ _).alloc (f _) _).alloc (by simp) _).alloc (by simp;omega) _
 obtain⟨q1,q2,q3⟩:=three_alloc w (Z #[J M 2,J M a,O s1,H a1 l1 c1] 30) (Z #[J M 2,J M b,O s2,H a2 l2 c2] 30) (Z #[J M 0,J M 0,O ⟨#[]⟩,H none 0 0] 30)
 have z0:(((w.alloc (Z #[J M 2,J M a,O s1,H a1 l1 c1] 30)).alloc (Z #[J M 2,J M b,O s2,H a2 l2 c2] 30)).alloc (Z #[J M 0,J M 0,O ⟨#[]⟩,H none 0 0] 30)).heap.size=w.heap.size+3:=by simp
 have HB0:=aa b0
 have HQ1:=aa q1
 have HQ2:=aa q2
 have HQ3:=aa q3
 have HZ0:=aa z0
 clear b0 q1 q2 q3 z0
 obtain⟨z,hz⟩:∃z,z=a*b:=⟨_,rfl⟩
 rw[←hz]
 have HZZ:=aa hz
 clear hz
 go_enter Tryz.func31,Tryz.ntmps31
 go_upto_region 6 with fail
 generalize (((w.alloc (Z #[J M 2,J M a,O s1,H a1 l1 c1] 30)).alloc (Z #[J M 2,J M b,O s2,H a2 l2 c2] 30)).alloc (Z #[J M 0,J M 0,O ⟨#[]⟩,H none 0 0] 30))=W at HB0 HQ1 HQ2 HQ3 HZ0 ⊢
 have HS:Hid (∀W':World,Below W.heap.size W W'→W'.cell? ⟨w.heap.size,1,none⟩=some (J M a)∧W'.cell? ⟨w.heap.size+1,1,none⟩=some (J M b)):=fun W' kk=>
  ⟨(kk.cell (p:=⟨w.heap.size,1,none⟩) (by rw[HZ0.out];show w.heap.size<_;omega)).trans (ac HQ1.out 1),(kk.cell (p:=⟨w.heap.size+1,1,none⟩) (by rw[HZ0.out];show w.heap.size+1<_;omega)).trans (ac HQ2.out 1)⟩
 obtain⟨x0,x1⟩:=HS.out W (u _ _)
 have D0:Below W.heap.size W W.drew:=(u _ _).drew
 go_cut [8,9,10] (fun s8 s9 s10 wx=>mV W a b s8 s9 s10 wx)
 case first=>
  go_region_held3 (fun W'=>W'.cell? ⟨w.heap.size,1,none⟩=some (J M a)∧W'.cell? ⟨w.heap.size+1,1,none⟩=some (J M b))
   (first
     | with_reducible exact HS.out _ k2
     | with_reducible exact HS.out _ k1
     | with_reducible exact HS.out _ D0
     | with_reducible exact HS.out _ (k2.alloc k2.size _)
     | with_reducible exact HS.out _ (k1.alloc k1.size _)
     | with_reducible exact HS.out _ (D0.alloc (f _) _)
     | go_keep)
   (first
     | (go_at_call 64;go_fit (HBb.out u1);rintro e u2 ⟨rfl,i2,h2⟩;have k2:Below W.heap.size W u2:=k1.trans (h2.mono k1.size);have j2:Below u1.heap.size u1 u2:=h2)
     | (go_at_call 64;go_fit (HBb.out (u1.alloc (Z #[.bool false,H none 0 0] 98)));rintro e u2 ⟨rfl,i2,h2⟩;have k2:Below W.heap.size W u2:=(k1.alloc k1.size _).trans (h2.mono (Nat.le_trans k1.size (by simp)));have j2:Below u1.heap.size u1 u2:=((u _ _).alloc (f _) _).trans (h2.mono (by simp));have hp:u2.heap[u1.heap.size]? = some (Z #[.bool false,H none 0 0] 98 (0,0)):=(h2.block u1.heap.size (by simp)).trans (ae u1 (Z #[.bool false,H none 0 0] 98)))
     | (go_at_call 64;go_fit (HA.out W.drew);rintro e u1 ⟨rfl,i1,h1⟩;have k1:Below W.heap.size W u1:=D0.trans h1)
     | (go_at_call 64;go_fit (HA.out (W.drew.alloc (Z #[.bool false,H none 0 0] 98)));rintro e u1 ⟨rfl,i1,h1⟩;have k1:Below W.heap.size W u1:=(D0.alloc (f _) _).trans (h1.mono (by simp));have hq:u1.heap[W.heap.size]? = some (Z #[.bool false,H none 0 0] 98 (0,0)):=(h1.block W.heap.size (by simp)).trans (ae W.drew (Z #[.bool false,H none 0 0] 98))))
  all_goals
   go_wp2_with fail
   go_meet
   have t1:=h1.size
   have t2:=h2.size
   have r1:=i1.lt
   have r2:=i2.lt
   try simp at t1
   try simp at t2
  ·have kA:Below u2.heap.size u2 (u2.alloc (Z #[.bool false,H none 0 0] 98)):=(u _ _).alloc (f _) _
   exact⟨_,_,u2.heap.size,rfl,rfl,rfl,(i1.below j2).below kA,i2.below kA,ae u2 (Z #[.bool false,H none 0 0] 98),by simp at r1 ⊢;omega,by simp at r2 ⊢;omega,k2.size,k2.alloc k2.size _⟩
  ·have e:(u1.alloc (Z #[.bool false,H none 0 0] 98)).heap.size=u1.heap.size+1:=by simp
   rw[e] at i2
   exact⟨_,_,u1.heap.size,rfl,rfl,rfl,i1.below j2,i2,hp,by simp at r1 ⊢;omega,by omega,k1.size,k2⟩
  ·have e:(W.drew.alloc (Z #[.bool false,H none 0 0] 98)).heap.size=W.heap.size+1:=by simp
   rw[e] at i1
   exact⟨_,_,W.heap.size,rfl,rfl,rfl,i1.below j2,i2,(j2.block W.heap.size (gy hq)).trans hq,by omega,by have:=gy hq;omega,f _,k2⟩
 case rest=>
  obtain⟨px,py,pz,rfl,rfl,rfl,ix,iy,hzb,hxz,hyz,hpz,kx⟩:=hcut
  have HADD:=aa (tC pz px py false (H none 0 0) a b wc hzb (fun x h=>by cases h) ix iy HRA.out HRB.out hxz hyz)
  have HRR:=aa ((kx.block (w.heap.size+2) (by rw[HZ0.out];omega)).trans HQ3.out)
  have HKX:=aa (HB0.out.trans (kx.mono HB0.out.size))
  have spz:w.heap.size+3≤pz:=by rw[HZ0.out] at hpz;exact hpz
  have swc:w.heap.size+3≤wc.heap.size:=by have:=kx.size;rw[HZ0.out] at this;exact this
  clear ix iy hzb hxz hyz hpz kx x0 x1 D0 HS HA HBb
  rw[←HZZ.out] at HADD
  go_wp2_with fail
  refine HADD.out.mono ?_
  rintro e w1 ⟨rfl,iz,k1⟩
  have HIZ:=aa iz
  have HR1:=aa ((k1.block (w.heap.size+2) (by omega)).trans HRR.out)
  have HK1:=aa (HKX.out.trans (k1.mono (by omega)))
  have HIS:=aa (gf pz z w1 iz)
  clear iz k1 HADD
  go_wp2_with fail
  refine HIS.out.mono ?_
  rintro e w2 ⟨rfl,k2⟩
  have s1:w.heap.size+2<w1.heap.size:=(Array.getElem?_eq_some_iff.1 HR1.out).1
  have hr2:=(k2.block (w.heap.size+2) s1).trans HR1.out
  have HK2:=aa (HK1.out.trans (k2.mono HK1.out.size))
  have HIZ2:=aa (HIZ.out.below k2)
  have HR2:=aa hr2
  have r0:=ac hr2 0
  have r1:=ac hr2 1
  have r2:=ac hr2 2
  have r3:=ac hr2 3
  have f0:=aj hr2 0
  have f1:=aj hr2 1
  have f2:=aj hr2 2
  have f3:=aj hr2 3
  simp at r0 r1 r2 r3
  have s2:w.heap.size+2<w2.heap.size:=(Array.getElem?_eq_some_iff.1 hr2).1
  clear hr2 k2 HIS
  by_cases hin:-9223372036854775808≤z∧z≤9223372036854775807
  ·have hd:decide (-9223372036854775808≤z∧z≤9223372036854775807)=true:=by simp[hin]
   have HIN:=aa hin
   have HI64:=aa (jc pz z w2 HIZ2.out hin)
   clear hin
   generalize decide (-9223372036854775808≤z∧z≤9223372036854775807)=dd at hd ⊢
   subst hd
   go_wp2_with fail
   refine HI64.out.mono ?_
   rintro e w3 ⟨rfl,rfl⟩
   go_wp2_with fail
   have E:=set4_here (b:=w.heap.size+1+1) HR2.out (J M 2) (J M z) (O ⟨#[]⟩) (H none 0 0)
   have hbb:Below w.heap.size w ((((w3.setCell ⟨w.heap.size+1+1,0,none⟩ (J M 2)).setCell ⟨w.heap.size+1+1,1,none⟩ (J M z)).setCell ⟨w.heap.size+1+1,2,none⟩ (O ⟨#[]⟩)).setCell ⟨w.heap.size+1+1,3,none⟩ (H none 0 0)):=(((HK2.out.setCell (p:=⟨w.heap.size+1+1,0,none⟩) (by show w.heap.size≤w.heap.size+1+1;omega) _).setCell (p:=⟨w.heap.size+1+1,1,none⟩) (by show w.heap.size≤w.heap.size+1+1;omega) _).setCell (p:=⟨w.heap.size+1+1,2,none⟩) (by show w.heap.size≤w.heap.size+1+1;omega) _).setCell (p:=⟨w.heap.size+1+1,3,none⟩) (by show w.heap.size≤w.heap.size+1+1;omega) _
   generalize ((((w3.setCell ⟨w.heap.size+1+1,0,none⟩ (J M 2)).setCell ⟨w.heap.size+1+1,1,none⟩ (J M z)).setCell ⟨w.heap.size+1+1,2,none⟩ (O ⟨#[]⟩)).setCell ⟨w.heap.size+1+1,3,none⟩ (H none 0 0))=Y at E hbb ⊢
   have t0:=ac E 0
   have t1:=ac E 1
   have t2:=ac E 2
   have t3:=ac E 3
   simp at t0 t1 t2 t3
   exact bodyPost_ret (v:=δ #[ζ #[J M 2,J M z,O ⟨#[]⟩,H none 0 0],J M 0]) (by simp[results,Tryz.results31,go_sem,t0,t1,t2,t3]) rfl ⟨⟨fun _=>rfl,fun h=>absurd HIN.out h⟩,hbb⟩
  ·have hd:decide (-9223372036854775808≤z∧z≤9223372036854775807)=false:=by simp only[decide_eq_false_iff_not];exact hin
   have HIN:=aa hin
   clear hin
   generalize decide (-9223372036854775808≤z∧z≤9223372036854775807)=dd at hd ⊢
   subst hd
   go_wp2_with fail
   have E:=set4_here (b:=w.heap.size+1+1) HR2.out (J M 0) (J M 0) (O ⟨#[]⟩) (H none 0 0)
   have hbb:Below w.heap.size w ((((w2.setCell ⟨w.heap.size+1+1,0,none⟩ (J M 0)).setCell ⟨w.heap.size+1+1,1,none⟩ (J M 0)).setCell ⟨w.heap.size+1+1,2,none⟩ (O ⟨#[]⟩)).setCell ⟨w.heap.size+1+1,3,none⟩ (H none 0 0)):=(((HK2.out.setCell (p:=⟨w.heap.size+1+1,0,none⟩) (by show w.heap.size≤w.heap.size+1+1;omega) _).setCell (p:=⟨w.heap.size+1+1,1,none⟩) (by show w.heap.size≤w.heap.size+1+1;omega) _).setCell (p:=⟨w.heap.size+1+1,2,none⟩) (by show w.heap.size≤w.heap.size+1+1;omega) _).setCell (p:=⟨w.heap.size+1+1,3,none⟩) (by show w.heap.size≤w.heap.size+1+1;omega) _
   generalize ((((w2.setCell ⟨w.heap.size+1+1,0,none⟩ (J M 0)).setCell ⟨w.heap.size+1+1,1,none⟩ (J M 0)).setCell ⟨w.heap.size+1+1,2,none⟩ (O ⟨#[]⟩)).setCell ⟨w.heap.size+1+1,3,none⟩ (H none 0 0))=Y at E hbb ⊢
   have t0:=ac E 0
   have t1:=ac E 1
   have t2:=ac E 2
   have t3:=ac E 3
   simp at t0 t1 t2 t3
   exact bodyPost_ret (v:=δ #[ζ #[J M 0,J M 0,O ⟨#[]⟩,H none 0 0],J M 4]) (by simp[results,Tryz.results31,go_sem,t0,t1,t2,t3]) rfl ⟨⟨fun h=>absurd h HIN.out,fun _=>rfl⟩,hbb⟩
theorem tu (sign:ByteArray) (k1 k2:Int) (n1 n2:Int) (s1 s2:ByteArray) (a1 a2:Option Addr) (l1 c1 l2 c2:Nat) (w:World) (h1:(sign.toList == [43])=false) (h2:(sign.toList == [45])=false) (h3:(sign.toList == [42])=false) :
 Calls Tryz.prog 31 #[O sign,ζ #[J M k1,J M n1,O s1,H a1 l1 c1],ζ #[J M k2,J M n2,O s2,H a2 l2 c2]] w fun e w'=>e=β (δ #[ζ #[J M 0,J M 0,O ⟨#[]⟩,H none 0 0],J M 5])∧Below w.heap.size w w':=by
 go_enter Tryz.func31,Tryz.ntmps31
 go_wp2_with fail
 have E:=(three_alloc w (Z #[J M k1,J M n1,O s1,H a1 l1 c1] 30) (Z #[J M k2,J M n2,O s2,H a2 l2 c2] 30) (Z #[J M 0,J M 0,O ⟨#[]⟩,H none 0 0] 30)).2.2
 have hbb:Below w.heap.size w (((w.alloc (Z #[J M k1,J M n1,O s1,H a1 l1 c1] 30)).alloc (Z #[J M k2,J M n2,O s2,H a2 l2 c2] 30)).alloc (Z #[J M 0,J M 0,O ⟨#[]⟩,H none 0 0] 30)):=(((u _ _).alloc (f _) _).alloc (by simp) _).alloc (by simp;omega) _
 generalize (((w.alloc (Z #[J M k1,J M n1,O s1,H a1 l1 c1] 30)).alloc (Z #[J M k2,J M n2,O s2,H a2 l2 c2] 30)).alloc (Z #[J M 0,J M 0,O ⟨#[]⟩,H none 0 0] 30))=Y at E hbb ⊢
 have t0:Y.cell? ⟨w.heap.size+1+1,0,none⟩=_:=ac E 0
 have t1:Y.cell? ⟨w.heap.size+1+1,1,none⟩=_:=ac E 1
 have t2:Y.cell? ⟨w.heap.size+1+1,2,none⟩=_:=ac E 2
 have t3:Y.cell? ⟨w.heap.size+1+1,3,none⟩=_:=ac E 3
 simp at t0 t1 t2 t3
 exact bodyPost_ret (v:=δ #[ζ #[J M 0,J M 0,O ⟨#[]⟩,H none 0 0],J M 5]) (by simp[results,Tryz.results31,go_sem,t0,t1,t2,t3]) rfl ⟨rfl,hbb⟩
theorem reckonOf_null_add (k1 k2:Int) (n1 n2:Int) (s1 s2:ByteArray) (a1 a2:Option Addr) (l1 c1 l2 c2:Nat) (w:World) (h:k1=0∨k2=0) :
 Calls Tryz.prog 31 #[O ⟨#[43]⟩,ζ #[J M k1,J M n1,O s1,H a1 l1 c1],ζ #[J M k2,J M n2,O s2,H a2 l2 c2]] w fun e w'=>e=β (δ #[ζ #[J M 0,J M 0,O ⟨#[]⟩,H none 0 0],J M 0])∧Below w.heap.size w w':=by
 by_cases h1:k1=0
 ·subst h1
  clear h
  go_enter Tryz.func31,Tryz.ntmps31
  go_wp2_with fail
  have E:=(three_alloc w (Z #[J M 0,J M n1,O s1,H a1 l1 c1] 30) (Z #[J M k2,J M n2,O s2,H a2 l2 c2] 30) (Z #[J M 0,J M 0,O ⟨#[]⟩,H none 0 0] 30)).2.2
  have hbb:Below w.heap.size w (((w.alloc (Z #[J M 0,J M n1,O s1,H a1 l1 c1] 30)).alloc (Z #[J M k2,J M n2,O s2,H a2 l2 c2] 30)).alloc (Z #[J M 0,J M 0,O ⟨#[]⟩,H none 0 0] 30)):=(((u _ _).alloc (f _) _).alloc (by simp) _).alloc (by simp;omega) _
  generalize (((w.alloc (Z #[J M 0,J M n1,O s1,H a1 l1 c1] 30)).alloc (Z #[J M k2,J M n2,O s2,H a2 l2 c2] 30)).alloc (Z #[J M 0,J M 0,O ⟨#[]⟩,H none 0 0] 30))=Y at E hbb ⊢
  have t0:Y.cell? ⟨w.heap.size+1+1,0,none⟩=_:=ac E 0
  have t1:Y.cell? ⟨w.heap.size+1+1,1,none⟩=_:=ac E 1
  have t2:Y.cell? ⟨w.heap.size+1+1,2,none⟩=_:=ac E 2
  have t3:Y.cell? ⟨w.heap.size+1+1,3,none⟩=_:=ac E 3
  simp at t0 t1 t2 t3
  exact bodyPost_ret (v:=δ #[ζ #[J M 0,J M 0,O ⟨#[]⟩,H none 0 0],J M 0]) (by simp[results,Tryz.results31,go_sem,t0,t1,t2,t3]) rfl ⟨rfl,hbb⟩
 ·have h2:k2=0:=h.resolve_left h1
  subst h2
  have h1':(k1==0)=false:=by simp[h1]
  clear h
  go_enter Tryz.func31,Tryz.ntmps31
  go_wp2_with fail
  have E:=(three_alloc w (Z #[J M k1,J M n1,O s1,H a1 l1 c1] 30) (Z #[J M 0,J M n2,O s2,H a2 l2 c2] 30) (Z #[J M 0,J M 0,O ⟨#[]⟩,H none 0 0] 30)).2.2
  have hbb:Below w.heap.size w (((w.alloc (Z #[J M k1,J M n1,O s1,H a1 l1 c1] 30)).alloc (Z #[J M 0,J M n2,O s2,H a2 l2 c2] 30)).alloc (Z #[J M 0,J M 0,O ⟨#[]⟩,H none 0 0] 30)):=(((u _ _).alloc (f _) _).alloc (by simp) _).alloc (by simp;omega) _
  generalize (((w.alloc (Z #[J M k1,J M n1,O s1,H a1 l1 c1] 30)).alloc (Z #[J M 0,J M n2,O s2,H a2 l2 c2] 30)).alloc (Z #[J M 0,J M 0,O ⟨#[]⟩,H none 0 0] 30))=Y at E hbb ⊢
  have t0:Y.cell? ⟨w.heap.size+1+1,0,none⟩=_:=ac E 0
  have t1:Y.cell? ⟨w.heap.size+1+1,1,none⟩=_:=ac E 1
  have t2:Y.cell? ⟨w.heap.size+1+1,2,none⟩=_:=ac E 2
  have t3:Y.cell? ⟨w.heap.size+1+1,3,none⟩=_:=ac E 3
  simp at t0 t1 t2 t3
  exact bodyPost_ret (v:=δ #[ζ #[J M 0,J M 0,O ⟨#[]⟩,H none 0 0],J M 0]) (by simp[results,Tryz.results31,go_sem,t0,t1,t2,t3]) rfl ⟨rfl,hbb⟩
theorem reckonOf_kind_add (k1 k2:Int) (n1 n2:Int) (s1 s2:ByteArray) (a1 a2:Option Addr) (l1 c1 l2 c2:Nat) (w:World) (h1:k1≠0) (h2:k2≠0) (h3:¬(k1=2∧k2=2)) (h4:k1≠k2∨(k1≠3∧k1≠4)) :
 Calls Tryz.prog 31 #[O ⟨#[43]⟩,ζ #[J M k1,J M n1,O s1,H a1 l1 c1],ζ #[J M k2,J M n2,O s2,H a2 l2 c2]] w fun e w'=>e=β (δ #[ζ #[J M 0,J M 0,O ⟨#[]⟩,H none 0 0],J M 3])∧Below w.heap.size w w':=by
 have h1':(k1==0)=false:=by simp[h1]
 have h2':(k2==0)=false:=by simp[h2]
 by_cases h5:k1=k2
 ·subst h5
  have h6:k1≠3∧k1≠4:=h4.resolve_left (fun h=>h rfl)
  have h7:(k1==2)=false:=by simp;omega
  have h8:(k1 != 3)=true:=by simp[h6.1]
  have h9:(k1 != 4)=true:=by simp[h6.2]
  clear h1 h2 h3 h4 h6
  go_enter Tryz.func31,Tryz.ntmps31
  go_wp2_with fail
  have E:=(three_alloc w (Z #[J M k1,J M n1,O s1,H a1 l1 c1] 30) (Z #[J M k1,J M n2,O s2,H a2 l2 c2] 30) (Z #[J M 0,J M 0,O ⟨#[]⟩,H none 0 0] 30)).2.2
  have hbb:Below w.heap.size w (((w.alloc (Z #[J M k1,J M n1,O s1,H a1 l1 c1] 30)).alloc (Z #[J M k1,J M n2,O s2,H a2 l2 c2] 30)).alloc (Z #[J M 0,J M 0,O ⟨#[]⟩,H none 0 0] 30)):=(((u _ _).alloc (f _) _).alloc (by simp) _).alloc (by simp;omega) _
  generalize (((w.alloc (Z #[J M k1,J M n1,O s1,H a1 l1 c1] 30)).alloc (Z #[J M k1,J M n2,O s2,H a2 l2 c2] 30)).alloc (Z #[J M 0,J M 0,O ⟨#[]⟩,H none 0 0] 30))=Y at E hbb ⊢
  have t0:Y.cell? ⟨w.heap.size+1+1,0,none⟩=_:=ac E 0
  have t1:Y.cell? ⟨w.heap.size+1+1,1,none⟩=_:=ac E 1
  have t2:Y.cell? ⟨w.heap.size+1+1,2,none⟩=_:=ac E 2
  have t3:Y.cell? ⟨w.heap.size+1+1,3,none⟩=_:=ac E 3
  simp at t0 t1 t2 t3
  exact bodyPost_ret (v:=δ #[ζ #[J M 0,J M 0,O ⟨#[]⟩,H none 0 0],J M 3]) (by simp[results,Tryz.results31,go_sem,t0,t1,t2,t3]) rfl ⟨rfl,hbb⟩
 ·have h6:(k1 != k2)=true:=by simp[h5]
  by_cases h7:k1=2
  ·subst h7
   have h8:(k2==2)=false:=by simp;omega
   clear h1 h2 h3 h4 h5
   go_enter Tryz.func31,Tryz.ntmps31
   go_wp2_with fail
   have E:=(three_alloc w (Z #[J M 2,J M n1,O s1,H a1 l1 c1] 30) (Z #[J M k2,J M n2,O s2,H a2 l2 c2] 30) (Z #[J M 0,J M 0,O ⟨#[]⟩,H none 0 0] 30)).2.2
   have hbb:Below w.heap.size w (((w.alloc (Z #[J M 2,J M n1,O s1,H a1 l1 c1] 30)).alloc (Z #[J M k2,J M n2,O s2,H a2 l2 c2] 30)).alloc (Z #[J M 0,J M 0,O ⟨#[]⟩,H none 0 0] 30)):=(((u _ _).alloc (f _) _).alloc (by simp) _).alloc (by simp;omega) _
   generalize (((w.alloc (Z #[J M 2,J M n1,O s1,H a1 l1 c1] 30)).alloc (Z #[J M k2,J M n2,O s2,H a2 l2 c2] 30)).alloc (Z #[J M 0,J M 0,O ⟨#[]⟩,H none 0 0] 30))=Y at E hbb ⊢
   have t0:Y.cell? ⟨w.heap.size+1+1,0,none⟩=_:=ac E 0
   have t1:Y.cell? ⟨w.heap.size+1+1,1,none⟩=_:=ac E 1
   have t2:Y.cell? ⟨w.heap.size+1+1,2,none⟩=_:=ac E 2
   have t3:Y.cell? ⟨w.heap.size+1+1,3,none⟩=_:=ac E 3
   simp at t0 t1 t2 t3
   exact bodyPost_ret (v:=δ #[ζ #[J M 0,J M 0,O ⟨#[]⟩,H none 0 0],J M 3]) (by simp[results,Tryz.results31,go_sem,t0,t1,t2,t3]) rfl ⟨rfl,hbb⟩
  ·have h8:(k1==2)=false:=by simp[h7]
   clear h1 h2 h3 h4 h5 h7
   go_enter Tryz.func31,Tryz.ntmps31
   go_wp2_with fail
   have E:=(three_alloc w (Z #[J M k1,J M n1,O s1,H a1 l1 c1] 30) (Z #[J M k2,J M n2,O s2,H a2 l2 c2] 30) (Z #[J M 0,J M 0,O ⟨#[]⟩,H none 0 0] 30)).2.2
   have hbb:Below w.heap.size w (((w.alloc (Z #[J M k1,J M n1,O s1,H a1 l1 c1] 30)).alloc (Z #[J M k2,J M n2,O s2,H a2 l2 c2] 30)).alloc (Z #[J M 0,J M 0,O ⟨#[]⟩,H none 0 0] 30)):=(((u _ _).alloc (f _) _).alloc (by simp) _).alloc (by simp;omega) _
   generalize (((w.alloc (Z #[J M k1,J M n1,O s1,H a1 l1 c1] 30)).alloc (Z #[J M k2,J M n2,O s2,H a2 l2 c2] 30)).alloc (Z #[J M 0,J M 0,O ⟨#[]⟩,H none 0 0] 30))=Y at E hbb ⊢
   have t0:Y.cell? ⟨w.heap.size+1+1,0,none⟩=_:=ac E 0
   have t1:Y.cell? ⟨w.heap.size+1+1,1,none⟩=_:=ac E 1
   have t2:Y.cell? ⟨w.heap.size+1+1,2,none⟩=_:=ac E 2
   have t3:Y.cell? ⟨w.heap.size+1+1,3,none⟩=_:=ac E 3
   simp at t0 t1 t2 t3
   exact bodyPost_ret (v:=δ #[ζ #[J M 0,J M 0,O ⟨#[]⟩,H none 0 0],J M 3]) (by simp[results,Tryz.results31,go_sem,t0,t1,t2,t3]) rfl ⟨rfl,hbb⟩
theorem reckonOf_null_sub (k1 k2:Int) (n1 n2:Int) (s1 s2:ByteArray) (a1 a2:Option Addr) (l1 c1 l2 c2:Nat) (w:World) (h:k1=0∨k2=0) :
 Calls Tryz.prog 31 #[O ⟨#[45]⟩,ζ #[J M k1,J M n1,O s1,H a1 l1 c1],ζ #[J M k2,J M n2,O s2,H a2 l2 c2]] w fun e w'=>e=β (δ #[ζ #[J M 0,J M 0,O ⟨#[]⟩,H none 0 0],J M 0])∧Below w.heap.size w w':=by
 by_cases h1:k1=0
 ·subst h1
  clear h
  go_enter Tryz.func31,Tryz.ntmps31
  go_wp2_with fail
  have E:=(three_alloc w (Z #[J M 0,J M n1,O s1,H a1 l1 c1] 30) (Z #[J M k2,J M n2,O s2,H a2 l2 c2] 30) (Z #[J M 0,J M 0,O ⟨#[]⟩,H none 0 0] 30)).2.2
  have hbb:Below w.heap.size w (((w.alloc (Z #[J M 0,J M n1,O s1,H a1 l1 c1] 30)).alloc (Z #[J M k2,J M n2,O s2,H a2 l2 c2] 30)).alloc (Z #[J M 0,J M 0,O ⟨#[]⟩,H none 0 0] 30)):=(((u _ _).alloc (f _) _).alloc (by simp) _).alloc (by simp;omega) _
  generalize (((w.alloc (Z #[J M 0,J M n1,O s1,H a1 l1 c1] 30)).alloc (Z #[J M k2,J M n2,O s2,H a2 l2 c2] 30)).alloc (Z #[J M 0,J M 0,O ⟨#[]⟩,H none 0 0] 30))=Y at E hbb ⊢
  have t0:Y.cell? ⟨w.heap.size+1+1,0,none⟩=_:=ac E 0
  have t1:Y.cell? ⟨w.heap.size+1+1,1,none⟩=_:=ac E 1
  have t2:Y.cell? ⟨w.heap.size+1+1,2,none⟩=_:=ac E 2
  have t3:Y.cell? ⟨w.heap.size+1+1,3,none⟩=_:=ac E 3
  simp at t0 t1 t2 t3
  exact bodyPost_ret (v:=δ #[ζ #[J M 0,J M 0,O ⟨#[]⟩,H none 0 0],J M 0]) (by simp[results,Tryz.results31,go_sem,t0,t1,t2,t3]) rfl ⟨rfl,hbb⟩
 ·have h2:k2=0:=h.resolve_left h1
  subst h2
  have h1':(k1==0)=false:=by simp[h1]
  clear h
  go_enter Tryz.func31,Tryz.ntmps31
  go_wp2_with fail
  have E:=(three_alloc w (Z #[J M k1,J M n1,O s1,H a1 l1 c1] 30) (Z #[J M 0,J M n2,O s2,H a2 l2 c2] 30) (Z #[J M 0,J M 0,O ⟨#[]⟩,H none 0 0] 30)).2.2
  have hbb:Below w.heap.size w (((w.alloc (Z #[J M k1,J M n1,O s1,H a1 l1 c1] 30)).alloc (Z #[J M 0,J M n2,O s2,H a2 l2 c2] 30)).alloc (Z #[J M 0,J M 0,O ⟨#[]⟩,H none 0 0] 30)):=(((u _ _).alloc (f _) _).alloc (by simp) _).alloc (by simp;omega) _
  generalize (((w.alloc (Z #[J M k1,J M n1,O s1,H a1 l1 c1] 30)).alloc (Z #[J M 0,J M n2,O s2,H a2 l2 c2] 30)).alloc (Z #[J M 0,J M 0,O ⟨#[]⟩,H none 0 0] 30))=Y at E hbb ⊢
  have t0:Y.cell? ⟨w.heap.size+1+1,0,none⟩=_:=ac E 0
  have t1:Y.cell? ⟨w.heap.size+1+1,1,none⟩=_:=ac E 1
  have t2:Y.cell? ⟨w.heap.size+1+1,2,none⟩=_:=ac E 2
  have t3:Y.cell? ⟨w.heap.size+1+1,3,none⟩=_:=ac E 3
  simp at t0 t1 t2 t3
  exact bodyPost_ret (v:=δ #[ζ #[J M 0,J M 0,O ⟨#[]⟩,H none 0 0],J M 0]) (by simp[results,Tryz.results31,go_sem,t0,t1,t2,t3]) rfl ⟨rfl,hbb⟩
theorem reckonOf_kind_sub (k1 k2:Int) (n1 n2:Int) (s1 s2:ByteArray) (a1 a2:Option Addr) (l1 c1 l2 c2:Nat) (w:World) (h1:k1≠0) (h2:k2≠0) (h3:¬(k1=2∧k2=2)) :
 Calls Tryz.prog 31 #[O ⟨#[45]⟩,ζ #[J M k1,J M n1,O s1,H a1 l1 c1],ζ #[J M k2,J M n2,O s2,H a2 l2 c2]] w fun e w'=>e=β (δ #[ζ #[J M 0,J M 0,O ⟨#[]⟩,H none 0 0],J M 3])∧Below w.heap.size w w':=by
 have h1':(k1==0)=false:=by simp[h1]
 have h2':(k2==0)=false:=by simp[h2]
 by_cases h7:k1=2
 ·subst h7
  have h8:(k2==2)=false:=by simp;omega
  clear h1 h2 h3
  go_enter Tryz.func31,Tryz.ntmps31
  go_wp2_with fail
  have E:=(three_alloc w (Z #[J M 2,J M n1,O s1,H a1 l1 c1] 30) (Z #[J M k2,J M n2,O s2,H a2 l2 c2] 30) (Z #[J M 0,J M 0,O ⟨#[]⟩,H none 0 0] 30)).2.2
  have hbb:Below w.heap.size w (((w.alloc (Z #[J M 2,J M n1,O s1,H a1 l1 c1] 30)).alloc (Z #[J M k2,J M n2,O s2,H a2 l2 c2] 30)).alloc (Z #[J M 0,J M 0,O ⟨#[]⟩,H none 0 0] 30)):=(((u _ _).alloc (f _) _).alloc (by simp) _).alloc (by simp;omega) _
  generalize (((w.alloc (Z #[J M 2,J M n1,O s1,H a1 l1 c1] 30)).alloc (Z #[J M k2,J M n2,O s2,H a2 l2 c2] 30)).alloc (Z #[J M 0,J M 0,O ⟨#[]⟩,H none 0 0] 30))=Y at E hbb ⊢
  have t0:Y.cell? ⟨w.heap.size+1+1,0,none⟩=_:=ac E 0
  have t1:Y.cell? ⟨w.heap.size+1+1,1,none⟩=_:=ac E 1
  have t2:Y.cell? ⟨w.heap.size+1+1,2,none⟩=_:=ac E 2
  have t3:Y.cell? ⟨w.heap.size+1+1,3,none⟩=_:=ac E 3
  simp at t0 t1 t2 t3
  exact bodyPost_ret (v:=δ #[ζ #[J M 0,J M 0,O ⟨#[]⟩,H none 0 0],J M 3]) (by simp[results,Tryz.results31,go_sem,t0,t1,t2,t3]) rfl ⟨rfl,hbb⟩
 ·have h8:(k1==2)=false:=by simp[h7]
  clear h1 h2 h3 h7
  go_enter Tryz.func31,Tryz.ntmps31
  go_wp2_with fail
  have E:=(three_alloc w (Z #[J M k1,J M n1,O s1,H a1 l1 c1] 30) (Z #[J M k2,J M n2,O s2,H a2 l2 c2] 30) (Z #[J M 0,J M 0,O ⟨#[]⟩,H none 0 0] 30)).2.2
  have hbb:Below w.heap.size w (((w.alloc (Z #[J M k1,J M n1,O s1,H a1 l1 c1] 30)).alloc (Z #[J M k2,J M n2,O s2,H a2 l2 c2] 30)).alloc (Z #[J M 0,J M 0,O ⟨#[]⟩,H none 0 0] 30)):=(((u _ _).alloc (f _) _).alloc (by simp) _).alloc (by simp;omega) _
  generalize (((w.alloc (Z #[J M k1,J M n1,O s1,H a1 l1 c1] 30)).alloc (Z #[J M k2,J M n2,O s2,H a2 l2 c2] 30)).alloc (Z #[J M 0,J M 0,O ⟨#[]⟩,H none 0 0] 30))=Y at E hbb ⊢
  have t0:Y.cell? ⟨w.heap.size+1+1,0,none⟩=_:=ac E 0
  have t1:Y.cell? ⟨w.heap.size+1+1,1,none⟩=_:=ac E 1
  have t2:Y.cell? ⟨w.heap.size+1+1,2,none⟩=_:=ac E 2
  have t3:Y.cell? ⟨w.heap.size+1+1,3,none⟩=_:=ac E 3
  simp at t0 t1 t2 t3
  exact bodyPost_ret (v:=δ #[ζ #[J M 0,J M 0,O ⟨#[]⟩,H none 0 0],J M 3]) (by simp[results,Tryz.results31,go_sem,t0,t1,t2,t3]) rfl ⟨rfl,hbb⟩
theorem reckonOf_null_mul (k1 k2:Int) (n1 n2:Int) (s1 s2:ByteArray) (a1 a2:Option Addr) (l1 c1 l2 c2:Nat) (w:World) (h:k1=0∨k2=0) :
 Calls Tryz.prog 31 #[O ⟨#[42]⟩,ζ #[J M k1,J M n1,O s1,H a1 l1 c1],ζ #[J M k2,J M n2,O s2,H a2 l2 c2]] w fun e w'=>e=β (δ #[ζ #[J M 0,J M 0,O ⟨#[]⟩,H none 0 0],J M 0])∧Below w.heap.size w w':=by
 by_cases h1:k1=0
 ·subst h1
  clear h
  go_enter Tryz.func31,Tryz.ntmps31
  go_wp2_with fail
  have E:=(three_alloc w (Z #[J M 0,J M n1,O s1,H a1 l1 c1] 30) (Z #[J M k2,J M n2,O s2,H a2 l2 c2] 30) (Z #[J M 0,J M 0,O ⟨#[]⟩,H none 0 0] 30)).2.2
  have hbb:Below w.heap.size w (((w.alloc (Z #[J M 0,J M n1,O s1,H a1 l1 c1] 30)).alloc (Z #[J M k2,J M n2,O s2,H a2 l2 c2] 30)).alloc (Z #[J M 0,J M 0,O ⟨#[]⟩,H none 0 0] 30)):=(((u _ _).alloc (f _) _).alloc (by simp) _).alloc (by simp;omega) _
  generalize (((w.alloc (Z #[J M 0,J M n1,O s1,H a1 l1 c1] 30)).alloc (Z #[J M k2,J M n2,O s2,H a2 l2 c2] 30)).alloc (Z #[J M 0,J M 0,O ⟨#[]⟩,H none 0 0] 30))=Y at E hbb ⊢
  have t0:Y.cell? ⟨w.heap.size+1+1,0,none⟩=_:=ac E 0
  have t1:Y.cell? ⟨w.heap.size+1+1,1,none⟩=_:=ac E 1
  have t2:Y.cell? ⟨w.heap.size+1+1,2,none⟩=_:=ac E 2
  have t3:Y.cell? ⟨w.heap.size+1+1,3,none⟩=_:=ac E 3
  simp at t0 t1 t2 t3
  exact bodyPost_ret (v:=δ #[ζ #[J M 0,J M 0,O ⟨#[]⟩,H none 0 0],J M 0]) (by simp[results,Tryz.results31,go_sem,t0,t1,t2,t3]) rfl ⟨rfl,hbb⟩
 ·have h2:k2=0:=h.resolve_left h1
  subst h2
  have h1':(k1==0)=false:=by simp[h1]
  clear h
  go_enter Tryz.func31,Tryz.ntmps31
  go_wp2_with fail
  have E:=(three_alloc w (Z #[J M k1,J M n1,O s1,H a1 l1 c1] 30) (Z #[J M 0,J M n2,O s2,H a2 l2 c2] 30) (Z #[J M 0,J M 0,O ⟨#[]⟩,H none 0 0] 30)).2.2
  have hbb:Below w.heap.size w (((w.alloc (Z #[J M k1,J M n1,O s1,H a1 l1 c1] 30)).alloc (Z #[J M 0,J M n2,O s2,H a2 l2 c2] 30)).alloc (Z #[J M 0,J M 0,O ⟨#[]⟩,H none 0 0] 30)):=(((u _ _).alloc (f _) _).alloc (by simp) _).alloc (by simp;omega) _
  generalize (((w.alloc (Z #[J M k1,J M n1,O s1,H a1 l1 c1] 30)).alloc (Z #[J M 0,J M n2,O s2,H a2 l2 c2] 30)).alloc (Z #[J M 0,J M 0,O ⟨#[]⟩,H none 0 0] 30))=Y at E hbb ⊢
  have t0:Y.cell? ⟨w.heap.size+1+1,0,none⟩=_:=ac E 0
  have t1:Y.cell? ⟨w.heap.size+1+1,1,none⟩=_:=ac E 1
  have t2:Y.cell? ⟨w.heap.size+1+1,2,none⟩=_:=ac E 2
  have t3:Y.cell? ⟨w.heap.size+1+1,3,none⟩=_:=ac E 3
  simp at t0 t1 t2 t3
  exact bodyPost_ret (v:=δ #[ζ #[J M 0,J M 0,O ⟨#[]⟩,H none 0 0],J M 0]) (by simp[results,Tryz.results31,go_sem,t0,t1,t2,t3]) rfl ⟨rfl,hbb⟩
theorem reckonOf_kind_mul (k1 k2:Int) (n1 n2:Int) (s1 s2:ByteArray) (a1 a2:Option Addr) (l1 c1 l2 c2:Nat) (w:World) (h1:k1≠0) (h2:k2≠0) (h3:¬(k1=2∧k2=2)) :
 Calls Tryz.prog 31 #[O ⟨#[42]⟩,ζ #[J M k1,J M n1,O s1,H a1 l1 c1],ζ #[J M k2,J M n2,O s2,H a2 l2 c2]] w fun e w'=>e=β (δ #[ζ #[J M 0,J M 0,O ⟨#[]⟩,H none 0 0],J M 3])∧Below w.heap.size w w':=by
 have h1':(k1==0)=false:=by simp[h1]
 have h2':(k2==0)=false:=by simp[h2]
 by_cases h7:k1=2
 ·subst h7
  have h8:(k2==2)=false:=by simp;omega
  clear h1 h2 h3
  go_enter Tryz.func31,Tryz.ntmps31
  go_wp2_with fail
  have E:=(three_alloc w (Z #[J M 2,J M n1,O s1,H a1 l1 c1] 30) (Z #[J M k2,J M n2,O s2,H a2 l2 c2] 30) (Z #[J M 0,J M 0,O ⟨#[]⟩,H none 0 0] 30)).2.2
  have hbb:Below w.heap.size w (((w.alloc (Z #[J M 2,J M n1,O s1,H a1 l1 c1] 30)).alloc (Z #[J M k2,J M n2,O s2,H a2 l2 c2] 30)).alloc (Z #[J M 0,J M 0,O ⟨#[]⟩,H none 0 0] 30)):=(((u _ _).alloc (f _) _).alloc (by simp) _).alloc (by simp;omega) _
  generalize (((w.alloc (Z #[J M 2,J M n1,O s1,H a1 l1 c1] 30)).alloc (Z #[J M k2,J M n2,O s2,H a2 l2 c2] 30)).alloc (Z #[J M 0,J M 0,O ⟨#[]⟩,H none 0 0] 30))=Y at E hbb ⊢
  have t0:Y.cell? ⟨w.heap.size+1+1,0,none⟩=_:=ac E 0
  have t1:Y.cell? ⟨w.heap.size+1+1,1,none⟩=_:=ac E 1
  have t2:Y.cell? ⟨w.heap.size+1+1,2,none⟩=_:=ac E 2
  have t3:Y.cell? ⟨w.heap.size+1+1,3,none⟩=_:=ac E 3
  simp at t0 t1 t2 t3
  exact bodyPost_ret (v:=δ #[ζ #[J M 0,J M 0,O ⟨#[]⟩,H none 0 0],J M 3]) (by simp[results,Tryz.results31,go_sem,t0,t1,t2,t3]) rfl ⟨rfl,hbb⟩
 ·have h8:(k1==2)=false:=by simp[h7]
  clear h1 h2 h3 h7
  go_enter Tryz.func31,Tryz.ntmps31
  go_wp2_with fail
  have E:=(three_alloc w (Z #[J M k1,J M n1,O s1,H a1 l1 c1] 30) (Z #[J M k2,J M n2,O s2,H a2 l2 c2] 30) (Z #[J M 0,J M 0,O ⟨#[]⟩,H none 0 0] 30)).2.2
  have hbb:Below w.heap.size w (((w.alloc (Z #[J M k1,J M n1,O s1,H a1 l1 c1] 30)).alloc (Z #[J M k2,J M n2,O s2,H a2 l2 c2] 30)).alloc (Z #[J M 0,J M 0,O ⟨#[]⟩,H none 0 0] 30)):=(((u _ _).alloc (f _) _).alloc (by simp) _).alloc (by simp;omega) _
  generalize (((w.alloc (Z #[J M k1,J M n1,O s1,H a1 l1 c1] 30)).alloc (Z #[J M k2,J M n2,O s2,H a2 l2 c2] 30)).alloc (Z #[J M 0,J M 0,O ⟨#[]⟩,H none 0 0] 30))=Y at E hbb ⊢
  have t0:Y.cell? ⟨w.heap.size+1+1,0,none⟩=_:=ac E 0
  have t1:Y.cell? ⟨w.heap.size+1+1,1,none⟩=_:=ac E 1
  have t2:Y.cell? ⟨w.heap.size+1+1,2,none⟩=_:=ac E 2
  have t3:Y.cell? ⟨w.heap.size+1+1,3,none⟩=_:=ac E 3
  simp at t0 t1 t2 t3
  exact bodyPost_ret (v:=δ #[ζ #[J M 0,J M 0,O ⟨#[]⟩,H none 0 0],J M 3]) (by simp[results,Tryz.results31,go_sem,t0,t1,t2,t3]) rfl ⟨rfl,hbb⟩
theorem reckonOf_text (n1 n2:Int) (s1 s2:ByteArray) (a1 a2:Option Addr) (l1 c1 l2 c2:Nat) (w:World) (hs:s1.size+s2.size≤4000) :
 Calls Tryz.prog 31 #[O ⟨#[43]⟩,ζ #[J M 3,J M n1,O s1,H a1 l1 c1],ζ #[J M 3,J M n2,O s2,H a2 l2 c2]] w fun e w'=>e=β (δ #[ζ #[J M 3,J M 0,O (s1++s2),H none 0 0],J M 0])∧Below w.heap.size w w':=by
 have hs1:(s1.size:Int)+(s2.size:Int)≤4000:=by omega
 go_enter Tryz.func31,Tryz.ntmps31
 go_wp2_with fail
 have E:=(three_alloc w (Z #[J M 3,J M n1,O s1,H a1 l1 c1] 30) (Z #[J M 3,J M n2,O s2,H a2 l2 c2] 30) (Z #[J M 3,J M 0,O (s1++s2),H none 0 0] 30)).2.2
 have hbb:Below w.heap.size w (((w.alloc (Z #[J M 3,J M n1,O s1,H a1 l1 c1] 30)).alloc (Z #[J M 3,J M n2,O s2,H a2 l2 c2] 30)).alloc (Z #[J M 3,J M 0,O (s1++s2),H none 0 0] 30)):=(((u _ _).alloc (f _) _).alloc (by simp) _).alloc (by simp;omega) _
 generalize (((w.alloc (Z #[J M 3,J M n1,O s1,H a1 l1 c1] 30)).alloc (Z #[J M 3,J M n2,O s2,H a2 l2 c2] 30)).alloc (Z #[J M 3,J M 0,O (s1++s2),H none 0 0] 30))=Y at E hbb ⊢
 have t0:Y.cell? ⟨w.heap.size+1+1,0,none⟩=_:=ac E 0
 have t1:Y.cell? ⟨w.heap.size+1+1,1,none⟩=_:=ac E 1
 have t2:Y.cell? ⟨w.heap.size+1+1,2,none⟩=_:=ac E 2
 have t3:Y.cell? ⟨w.heap.size+1+1,3,none⟩=_:=ac E 3
 simp at t0 t1 t2 t3
 exact bodyPost_ret (v:=δ #[ζ #[J M 3,J M 0,O (s1++s2),H none 0 0],J M 0]) (by simp[results,Tryz.results31,go_sem,t0,t1,t2,t3]) rfl ⟨rfl,hbb⟩
theorem reckonOf_long (n1 n2:Int) (s1 s2:ByteArray) (a1 a2:Option Addr) (l1 c1 l2 c2:Nat) (w:World) (hs:4000<s1.size+s2.size) (hm:s1.size+s2.size≤9223372036854775807) :
 Calls Tryz.prog 31 #[O ⟨#[43]⟩,ζ #[J M 3,J M n1,O s1,H a1 l1 c1],ζ #[J M 3,J M n2,O s2,H a2 l2 c2]] w fun e w'=>e=β (δ #[ζ #[J M 0,J M 0,O ⟨#[]⟩,H none 0 0],J M 2])∧Below w.heap.size w w':=by
 have hs1:¬((s1.size:Int)+(s2.size:Int)≤4000):=by omega
 go_enter Tryz.func31,Tryz.ntmps31
 go_wp2_with fail
 have E:=(three_alloc w (Z #[J M 3,J M n1,O s1,H a1 l1 c1] 30) (Z #[J M 3,J M n2,O s2,H a2 l2 c2] 30) (Z #[J M 0,J M 0,O ⟨#[]⟩,H none 0 0] 30)).2.2
 have hbb:Below w.heap.size w (((w.alloc (Z #[J M 3,J M n1,O s1,H a1 l1 c1] 30)).alloc (Z #[J M 3,J M n2,O s2,H a2 l2 c2] 30)).alloc (Z #[J M 0,J M 0,O ⟨#[]⟩,H none 0 0] 30)):=(((u _ _).alloc (f _) _).alloc (by simp) _).alloc (by simp;omega) _
 generalize (((w.alloc (Z #[J M 3,J M n1,O s1,H a1 l1 c1] 30)).alloc (Z #[J M 3,J M n2,O s2,H a2 l2 c2] 30)).alloc (Z #[J M 0,J M 0,O ⟨#[]⟩,H none 0 0] 30))=Y at E hbb ⊢
 have t0:Y.cell? ⟨w.heap.size+1+1,0,none⟩=_:=ac E 0
 have t1:Y.cell? ⟨w.heap.size+1+1,1,none⟩=_:=ac E 1
 have t2:Y.cell? ⟨w.heap.size+1+1,2,none⟩=_:=ac E 2
 have t3:Y.cell? ⟨w.heap.size+1+1,3,none⟩=_:=ac E 3
 simp at t0 t1 t2 t3
 exact bodyPost_ret (v:=δ #[ζ #[J M 0,J M 0,O ⟨#[]⟩,H none 0 0],J M 2]) (by simp[results,Tryz.results31,go_sem,t0,t1,t2,t3]) rfl ⟨rfl,hbb⟩
theorem reckonOf_many (n1 n2:Int) (s1 s2:ByteArray) (a1 a2:Option Addr) (l1 c1 l2 c2:Nat) (w:World) (hs:30<l1+l2) (hm:l1+l2≤9223372036854775807) :
 Calls Tryz.prog 31 #[O ⟨#[43]⟩,ζ #[J M 4,J M n1,O s1,H a1 l1 c1],ζ #[J M 4,J M n2,O s2,H a2 l2 c2]] w fun e w'=>e=β (δ #[ζ #[J M 0,J M 0,O ⟨#[]⟩,H none 0 0],J M 2])∧Below w.heap.size w w':=by
 have hs1:(30:Int)<(l1:Int)+(l2:Int):=by omega
 go_enter Tryz.func31,Tryz.ntmps31
 go_wp2_with fail
 have E:=(three_alloc w (Z #[J M 4,J M n1,O s1,H a1 l1 c1] 30) (Z #[J M 4,J M n2,O s2,H a2 l2 c2] 30) (Z #[J M 0,J M 0,O ⟨#[]⟩,H none 0 0] 30)).2.2
 have hbb:Below w.heap.size w (((w.alloc (Z #[J M 4,J M n1,O s1,H a1 l1 c1] 30)).alloc (Z #[J M 4,J M n2,O s2,H a2 l2 c2] 30)).alloc (Z #[J M 0,J M 0,O ⟨#[]⟩,H none 0 0] 30)):=(((u _ _).alloc (f _) _).alloc (by simp) _).alloc (by simp;omega) _
 generalize (((w.alloc (Z #[J M 4,J M n1,O s1,H a1 l1 c1] 30)).alloc (Z #[J M 4,J M n2,O s2,H a2 l2 c2] 30)).alloc (Z #[J M 0,J M 0,O ⟨#[]⟩,H none 0 0] 30))=Y at E hbb ⊢
 have t0:Y.cell? ⟨w.heap.size+1+1,0,none⟩=_:=ac E 0
 have t1:Y.cell? ⟨w.heap.size+1+1,1,none⟩=_:=ac E 1
 have t2:Y.cell? ⟨w.heap.size+1+1,2,none⟩=_:=ac E 2
 have t3:Y.cell? ⟨w.heap.size+1+1,3,none⟩=_:=ac E 3
 simp at t0 t1 t2 t3
 exact bodyPost_ret (v:=δ #[ζ #[J M 0,J M 0,O ⟨#[]⟩,H none 0 0],J M 2]) (by simp[results,Tryz.results31,go_sem,t0,t1,t2,t3]) rfl ⟨rfl,hbb⟩
end BG
end Go.Proofs.YtijjpoohhgapoaaGreatDoor

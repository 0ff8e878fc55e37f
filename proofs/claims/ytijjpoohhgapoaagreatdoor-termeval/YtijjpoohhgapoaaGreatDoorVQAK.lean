import Derived.Maps.OwnOps
import Derived.MapKept
import Derived.RowKit
import Derived.Test.YtijjpoohhgapoaaGreatDoorVQAE
namespace Go.Proofs.YtijjpoohhgapoaaGreatDoor
open Go.RowKit Go.MapKept
open Go.RowKit
set_option linter.unusedVariables false
set_option maxHeartbeats 8000000
set_option maxRecDepth 100000
open List renaming mem_of_mem_take → A, drop_eq_nil_of_le → M, map_cons → S, map_drop → U
open Value renaming string → C, int → F, slice → G, agg → H, pointer → I, tuple → X
open IntKind renaming i64 → D
open Obj renaming cells → J
open Ending renaming returned → K
open Nat renaming le_refl → O
open RowKit.Below renaming refl → V
def bH (s:ByteArray):List MapEntry→Option Value
 | []=>none
 | e::es=>
   match e.key with
   | .string t=>if (s==t)=true then some e.val else bH s es
   | _=>bH s es
def cm (es:List MapEntry):Prop:=∀e ∈ es,∃t,e.key=C t
theorem gn (s:ByteArray):∀(es:List MapEntry) (i:Nat),cm es→∃r,Instr.findNow .string (C s) es i=some r∧r.map (·.2)=bH s es
 | [],i,_=>⟨none,rfl,rfl⟩
 | e::es,i,h=>by
   obtain⟨t,ht⟩:=h e (List.mem_cons_self ..)
   obtain⟨r,hr,hm⟩:=gn s es (i+1) (fun x hx=>h x (List.mem_cons_of_mem _ hx))
   cases hst:(s==t) with
   | true=>exact⟨some (i,e.val),by simp[Instr.findNow,ht,Instr.sameNow,hst],by simp[bH,ht,hst]⟩
   | false=>exact⟨r,by simp[Instr.findNow,ht,Instr.sameNow,hst,hr],by rw[hm];simp[bH,ht,hst]⟩
theorem jb (s:ByteArray):IsKey .string (C s):=by simp[IsKey]
theorem bn {P:Program} {w:World} {t k e:TypeId} (ht:P.underlying t=some (.map k e)) (hk:P.underlying k=some .string) {r:Nat} {es:Array MapEntry} {clk:Nat} (hr:w.heap[r]? = some (.map es clk)) (hs:cm es.toList) (s:ByteArray) {z:Value} (hz:(zeroValue e).run P w = .ok z w) (ok:Bool) :
 (Instr.lookup t (.map (some r)) (C s) ok).run P w = .ok (if ok then X #[(bH s es.toList).getD z,.bool (bH s es.toList).isSome] else (bH s es.toList).getD z) w:=by
 obtain⟨x,hx,hm⟩:=gn s es.toList 0 hs
 have h1:=run_findKey (w:=w) hk hx
 have h2:∀b,(Instr.checkKey b 10000 k (C s)).run P w = .ok () w:=fun b=>run_checkKey (P:=P) (w:=w) hk (jb s) b 9999
 have h0:=Go.MapKept.run_getObj_map (P:=P) hr
 rw[←hm]
 unfold Instr.lookup
 simp only[Sem.run_bind,run_underlying ht,Result.andThen,h0,Sem.run_pure,h2,h1]
 cases x<;>cases ok<;>simp[hz,Result.andThen]
def a7 (w:World) (r:Nat) (o:Obj):World:={ w with heap:=w.heap.setIfInBounds r o }
theorem aM (w:World) (r:Nat) (o:Obj):(a7 w r o).heap.size=w.heap.size:=by simp[a7]
theorem aN {w:World} {r:Nat} (h:r<w.heap.size) (o:Obj):(a7 w r o).heap[r]? = some o:=by simp[a7,h]
theorem aG (w:World) (r:Nat) (o:Obj) (j:Nat) (h:j≠r):(a7 w r o).heap[j]? = w.heap[j]?:=by simp[a7,Ne.symm h]
theorem aT (B:Nat) (w:World) (r:Nat) (o:Obj) (h:B≤r):Below B w (a7 w r o):=⟨rfl,rfl,rfl,by rw[aM];exact O _,fun j hj=>aG w r o j (by omega)⟩
theorem al {P:Program} {w:World} {t k e:TypeId} (ht:P.underlying t=some (.map k e)) (hk:P.underlying k=some .string) {r:Nat} {es:Array MapEntry} {clk:Nat} (hr:w.heap[r]? = some (.map es clk)) (hs:cm es.toList) (s:ByteArray) (hn:bH s es.toList=none) (v:Value) :
 (Instr.mapUpdate t (.map (some r)) (C s) v).run P w = .ok () (a7 w r (.map (es.push ⟨C s,v,clk⟩) (clk+1))):=by
 obtain⟨x,hx,hm⟩:=gn s es.toList 0 hs
 have h1:=run_findKey (w:=w) hk hx
 have h2:(Instr.checkKey false 10000 k (C s)).run P w = .ok () w:=run_checkKey (P:=P) (w:=w) hk (jb s) false 9999
 have h0:=Go.MapKept.run_getObj_map (P:=P) hr
 have h3:=Go.MapKept.run_setObj_map (P:=P) (.map (es.push ⟨C s,v,clk⟩) (clk+1)) hr
 have hx0:x=none:=by
  cases x with
  | none=>rfl
  | some p=>rw[hn] at hm;cases hm
 subst hx0
 unfold Instr.mapUpdate
 simp only[Sem.run_bind,run_underlying ht,Result.andThen,h0,h2,h1,h3]
 rfl
theorem pR {P:Program} (w:World) {ops:Array Oper} {rest:List Oper} {o:Oper} {a:Act} {Q:Exit→Act→World→Prop} (hg:o.guard=none) (m x:Operand) (t:TypeId) (ok:Bool) (hop:o.op=Op.lookup t m x ok)
 (k e:TypeId) (ht:P.underlying t=some (.map k e)) (hk:P.underlying k=some .string) (z:Value) (hz:(zeroValue e).run P w = .ok z w) (r:Nat) (es:Array MapEntry) (clk:Nat) (s:ByteArray) (hm:a.eval m = .map (some r)) (hx:a.eval x=C s) (hr:w.heap[r]? = some (.map es clk)) (hs:cm es.toList)
 (hK:wpList P ops Q rest (a.put o.dst (if ok then X #[(bH s es.toList).getD z,.bool (bH s es.toList).isSome] else (bH s es.toList).getD z)) w):wpList P ops Q (o::rest) a w:=by
 refine wpList_plain hg fun K' hK'=>?_
 have hrun:=bn ht hk hr hs s hz ok
 unfold Oper.wp
 simp[execOp,hop,hm,hx,hrun,Result.andThen]
 exact hK' _ _ hK
theorem pS {P:Program} (w:World) {ops:Array Oper} {rest:List Oper} {o:Oper} {a:Act} {Q:Exit→Act→World→Prop} (hg:o.guard=none) (m x v:Operand) (t:TypeId) (hop:o.op=Op.insert t m x v)
 (k e:TypeId) (ht:P.underlying t=some (.map k e)) (hk:P.underlying k=some .string) (r:Nat) (es:Array MapEntry) (clk:Nat) (s:ByteArray) (y:Value) (hm:a.eval m = .map (some r)) (hx:a.eval x=C s) (hv:a.eval v=y) (hr:w.heap[r]? = some (.map es clk)) (hs:cm es.toList) (hn:bH s es.toList=none)
 (hK:∀w',w'=a7 w r (.map (es.push ⟨C s,y,clk⟩) (clk+1))→wpList P ops Q rest (a.put o.dst undef) w'):wpList P ops Q (o::rest) a w:=by
 refine wpList_plain hg fun K' hK'=>?_
 have hrun:=al ht hk hr hs s hn y
 unfold Oper.wp
 simp[execOp,hop,hm,hx,hv,hrun,Result.andThen]
 exact hK' _ _ (hK _ rfl)
theorem pQ {P:Program} (w:World) {ops:Array Oper} {rest:List Oper} {o:Oper} {a:Act} {Q:Exit→Act→World→Prop} (hg:o.guard=none) (m x v:Operand) (t:TypeId) (hop:o.op=Op.mapUpdate t m x v)
 (k e:TypeId) (ht:P.underlying t=some (.map k e)) (hk:P.underlying k=some .string) (r:Nat) (es:Array MapEntry) (clk:Nat) (s:ByteArray) (y:Value) (hm:a.eval m = .map (some r)) (hx:a.eval x=C s) (hv:a.eval v=y) (hr:w.heap[r]? = some (.map es clk)) (hs:cm es.toList) (hn:bH s es.toList=none)
 (hK:∀w',w'=a7 w r (.map (es.push ⟨C s,y,clk⟩) (clk+1))→wpList P ops Q rest (a.put o.dst undef) w'):wpList P ops Q (o::rest) a w:=by
 refine wpList_plain hg fun K' hK'=>?_
 have hrun:=al ht hk hr hs s hn y
 unfold Oper.wp
 simp[execOp,hop,hm,hx,hv,hrun,Result.andThen]
 exact hK' _ _ (hK _ rfl)
structure BK (w W:World) (es:List MapEntry) (bx:List Obj):Prop where
 size:W.heap.size=w.heap.size+1+bx.length
 blk:W.heap[w.heap.size]? = some (.map es.toArray es.length)
 box:∀(i:Nat) o,bx[i]? = some o→W.heap[w.heap.size+1+i]? = some o
 bel:Below w.heap.size w W
theorem BK.start (w:World):BK w (w.alloc (.map #[] 0)) [] []:=⟨by simp,ae w _,fun i o h=>by simp at h,(V _ _).alloc (O _) _⟩
theorem BK.insert {w W:World} {es:List MapEntry} {bx:List Obj} (h:BK w W es bx) (e:MapEntry):BK w (a7 W w.heap.size (.map (es.toArray.push e) (es.length+1))) (es ++ [e]) bx:=by
 have hl:w.heap.size<W.heap.size:=by rw[h.size];omega
 refine⟨by rw[aM];exact h.size,?_,fun i o hi=>?_,h.bel.trans (aT _ W _ _ (O _))⟩
 ·rw[aN hl]
  simp
 ·rw[aG _ _ _ _ (by omega)]
  exact h.box i o hi
theorem BK.more {w W:World} {es:List MapEntry} {bx:List Obj} (h:BK w W es bx) (o:Obj):BK w (W.alloc o) es (bx ++ [o]):=by
 have hs:=h.size
 refine⟨by simp[hs];omega,(Below.heap_alloc W o _ (by omega)).trans h.blk,fun i x hi=>?_,h.bel.alloc h.bel.size _⟩
 by_cases hb:i<bx.length
 ·rw[List.getElem?_append_left hb] at hi
  exact(Below.heap_alloc W o _ (by omega)).trans (h.box i x hi)
 ·rw[List.getElem?_append_right (by omega)] at hi
  have h0:i-bx.length=0:=by
   rcases Nat.eq_zero_or_pos (i-bx.length) with h | h
   ·exact h
   ·rw[List.getElem?_eq_none (by simp;omega)] at hi;cases hi
  rw[h0] at hi
  injection hi with hi
  subst hi
  have e:w.heap.size+1+i=W.heap.size:=by omega
  rw[e]
  exact ae W o
theorem BK.insert2 {w W W':World} {es:List MapEntry} {bx:List Obj} (h:BK w W es bx) {e:MapEntry} (hW:W'=a7 W w.heap.size (.map (es.toArray.push e) (es.length+1))):BK w W' (es ++ [e]) bx:=by
 rw[hW]
 exact h.insert e
theorem BK.more2 {w W W':World} {es:List MapEntry} {bx:List Obj} (h:BK w W es bx) {o:Obj} (hW:W'=W.alloc o):BK w W' es (bx ++ [o]):=by
 rw[hW]
 exact h.more o
theorem cm.snoc {es:List MapEntry} (h:cm es) (s:ByteArray) (v:Value) (i:Nat):cm (es ++ [⟨C s,v,i⟩]):=by
 intro e he
 rcases List.mem_append.1 he with he | he
 ·exact h e he
 ·rw[List.mem_singleton.1 he]
  exact⟨_,rfl⟩
theorem nI (s:ByteArray) (w:World):Calls Tryz.prog 39 #[C s] w fun e w'=>e=K (.func (.func 78) #[] #[I (some ⟨w.heap.size,0,none⟩)])∧w'=w.alloc (J #[C s] 9):=by
 go_enter Tryz.func39,Tryz.ntmps39
 go_wp2_with fail
 go_ret
 exact⟨rfl,rfl⟩
theorem lO (n:Int) (w:World):Calls Tryz.prog 47 #[F D n] w fun e w'=>e=K (.func (.func 81) #[] #[I (some ⟨w.heap.size,0,none⟩)])∧w'=w.alloc (J #[F D n] 3):=by
 go_enter Tryz.func47,Tryz.ntmps47
 go_wp2_with fail
 go_ret
 exact⟨rfl,rfl⟩
abbrev fcl (f b:Nat):Value:=.func (.func f) #[] #[I (some ⟨b,0,none⟩)]
abbrev fpl (f:Nat):Value:=.func (.func f) #[] #[]
def ent (s:List UInt8) (n:Int) (f:Value) (i:Nat):MapEntry:=⟨C ⟨s.toArray⟩,H #[F D n,f],i⟩
def aC (b:Nat):List MapEntry:=[
 ent [43] 2 (fcl 78 b) 0,ent [45] 2 (fcl 78 (b+1)) 1,ent [42] 2 (fcl 78 (b+2)) 2,
 ent [61] 2 (fpl 40) 3,ent [60] 2 (fpl 42) 4,ent [60,61] 2 (fpl 44) 5,ent [110,111,116] 1 (fpl 46) 6,
 ent [111,114] 2 (fcl 81 (b+3)) 7,ent [97,110,100] 2 (fcl 81 (b+4)) 8,
 ent [105,110] 2 (fpl 48) 9,ent [110,117,108,108] 1 (fpl 49) 10,ent [115,105,122,101] 1 (fpl 51) 11,ent [104,101,97,100] 1 (fpl 52) 12,
 ent [99,111,97,108,101,115,99,101] (-1) (fpl 53) 13,ent [108,105,115,116] (-1) (fpl 54) 14,ent [105,100] 1 (fpl 55) 15,ent [116,121,112,101] 1 .nilFunc 16]
def cJ:List Obj:=[J #[C ⟨#[43]⟩] 9,J #[C ⟨#[45]⟩] 9,J #[C ⟨#[42]⟩] 9,J #[F D 1] 3,J #[F D 0] 3]
theorem br (b:Nat):cm (aC b):=by
 intro e he
 simp only[aC,List.mem_cons,List.not_mem_nil,or_false] at he
 rcases he with rfl | rfl | rfl | rfl | rfl | rfl | rfl | rfl | rfl | rfl | rfl | rfl | rfl | rfl | rfl | rfl | rfl<;>exact⟨_,rfl⟩
theorem rD (w:World):Calls Tryz.prog 15 #[] w fun e w'=>e=K (.map (some w.heap.size))∧BK w w' (aC (w.heap.size+1)) cJ:=by
 have hmm:=@run_makeMap Tryz.prog
 have HR:=aa nI
 have HL:=aa lO
 have HB:Hid (BK w (w.alloc (.map #[] 0)) ((aC (w.heap.size+1)).take 0) (cJ.take 0)):=BK.start w
 go_enter Tryz.func15,Tryz.ntmps15
 go_wp2_with fail
 generalize w.alloc (.map #[] 0)=W at HB ⊢
 refine(HR.out _ _).mono ?_
 rintro e W' ⟨rfl,hW'⟩
 have hz:W.heap.size=w.heap.size+1:=HB.out.size
 rw[hz]
 replace HB:Hid (BK w W' ((aC (w.heap.size+1)).take 0) (cJ.take 1)):=HB.out.more2 hW'
 clear hW' hz
 generalize W'=W at HB ⊢
 have hrun:=al (P:=Tryz.prog) Tryz.underlying54 Tryz.underlying9 HB.out.blk (fun e he=>br _ e (A he)) ⟨#[43]⟩ (by kernel_rfl) (H #[F D 2,.func (.func 78) #[] #[I (some ⟨w.heap.size+1,0,none⟩)]])
 obtain⟨W',hW'⟩:∃z,z=a7 W w.heap.size (.map (((aC (w.heap.size+1)).take 0).toArray.push ⟨C ⟨#[43]⟩,H #[F D 2,.func (.func 78) #[] #[I (some ⟨w.heap.size+1,0,none⟩)]],((aC (w.heap.size+1)).take 0).length⟩) (((aC (w.heap.size+1)).take 0).length+1)):=⟨_,rfl⟩
 rw[←hW'] at hrun
 replace HB:Hid (BK w W' ((aC (w.heap.size+1)).take 1) (cJ.take 1)):=HB.out.insert2 hW'
 clear hW'
 have hrun0:=hrun
 clear hrun
 go_wp2_with fail
 generalize W'=W at HB ⊢
 refine(HR.out _ _).mono ?_
 rintro e W' ⟨rfl,hW'⟩
 have hz:W.heap.size=w.heap.size+2:=HB.out.size
 rw[hz]
 replace HB:Hid (BK w W' ((aC (w.heap.size+1)).take 1) (cJ.take 2)):=HB.out.more2 hW'
 clear hW' hz
 generalize W'=W at HB ⊢
 have hrun:=al (P:=Tryz.prog) Tryz.underlying54 Tryz.underlying9 HB.out.blk (fun e he=>br _ e (A he)) ⟨#[45]⟩ (by kernel_rfl) (H #[F D 2,.func (.func 78) #[] #[I (some ⟨w.heap.size+2,0,none⟩)]])
 obtain⟨W',hW'⟩:∃z,z=a7 W w.heap.size (.map (((aC (w.heap.size+1)).take 1).toArray.push ⟨C ⟨#[45]⟩,H #[F D 2,.func (.func 78) #[] #[I (some ⟨w.heap.size+2,0,none⟩)]],((aC (w.heap.size+1)).take 1).length⟩) (((aC (w.heap.size+1)).take 1).length+1)):=⟨_,rfl⟩
 rw[←hW'] at hrun
 replace HB:Hid (BK w W' ((aC (w.heap.size+1)).take 2) (cJ.take 2)):=HB.out.insert2 hW'
 clear hW'
 have hrun1:=hrun
 clear hrun
 go_wp2_with fail
 generalize W'=W at HB ⊢
 refine(HR.out _ _).mono ?_
 rintro e W' ⟨rfl,hW'⟩
 have hz:W.heap.size=w.heap.size+3:=HB.out.size
 rw[hz]
 replace HB:Hid (BK w W' ((aC (w.heap.size+1)).take 2) (cJ.take 3)):=HB.out.more2 hW'
 clear hW' hz
 generalize W'=W at HB ⊢
 have hrun:=al (P:=Tryz.prog) Tryz.underlying54 Tryz.underlying9 HB.out.blk (fun e he=>br _ e (A he)) ⟨#[42]⟩ (by kernel_rfl) (H #[F D 2,.func (.func 78) #[] #[I (some ⟨w.heap.size+3,0,none⟩)]])
 obtain⟨W',hW'⟩:∃z,z=a7 W w.heap.size (.map (((aC (w.heap.size+1)).take 2).toArray.push ⟨C ⟨#[42]⟩,H #[F D 2,.func (.func 78) #[] #[I (some ⟨w.heap.size+3,0,none⟩)]],((aC (w.heap.size+1)).take 2).length⟩) (((aC (w.heap.size+1)).take 2).length+1)):=⟨_,rfl⟩
 rw[←hW'] at hrun
 replace HB:Hid (BK w W' ((aC (w.heap.size+1)).take 3) (cJ.take 3)):=HB.out.insert2 hW'
 clear hW'
 have hrun2:=hrun
 clear hrun
 obtain⟨W,hWW⟩:∃z,z=W':=⟨_,rfl⟩
 rw[←hWW] at HB hrun2
 clear hWW
 have hrun:=al (P:=Tryz.prog) Tryz.underlying54 Tryz.underlying9 HB.out.blk (fun e he=>br _ e (A he)) ⟨#[61]⟩ (by kernel_rfl) (H #[F D 2,.func (.func 40) #[] #[]])
 obtain⟨W',hW'⟩:∃z,z=a7 W w.heap.size (.map (((aC (w.heap.size+1)).take 3).toArray.push ⟨C ⟨#[61]⟩,H #[F D 2,.func (.func 40) #[] #[]],((aC (w.heap.size+1)).take 3).length⟩) (((aC (w.heap.size+1)).take 3).length+1)):=⟨_,rfl⟩
 rw[←hW'] at hrun
 replace HB:Hid (BK w W' ((aC (w.heap.size+1)).take 4) (cJ.take 3)):=HB.out.insert2 hW'
 clear hW'
 have hrun3:=hrun
 clear hrun
 obtain⟨W,hWW⟩:∃z,z=W':=⟨_,rfl⟩
 rw[←hWW] at HB hrun3
 clear hWW
 have hrun:=al (P:=Tryz.prog) Tryz.underlying54 Tryz.underlying9 HB.out.blk (fun e he=>br _ e (A he)) ⟨#[60]⟩ (by kernel_rfl) (H #[F D 2,.func (.func 42) #[] #[]])
 obtain⟨W',hW'⟩:∃z,z=a7 W w.heap.size (.map (((aC (w.heap.size+1)).take 4).toArray.push ⟨C ⟨#[60]⟩,H #[F D 2,.func (.func 42) #[] #[]],((aC (w.heap.size+1)).take 4).length⟩) (((aC (w.heap.size+1)).take 4).length+1)):=⟨_,rfl⟩
 rw[←hW'] at hrun
 replace HB:Hid (BK w W' ((aC (w.heap.size+1)).take 5) (cJ.take 3)):=HB.out.insert2 hW'
 clear hW'
 have hrun4:=hrun
 clear hrun
 obtain⟨W,hWW⟩:∃z,z=W':=⟨_,rfl⟩
 rw[←hWW] at HB hrun4
 clear hWW
 have hrun:=al (P:=Tryz.prog) Tryz.underlying54 Tryz.underlying9 HB.out.blk (fun e he=>br _ e (A he)) ⟨#[60,61]⟩ (by kernel_rfl) (H #[F D 2,.func (.func 44) #[] #[]])
 obtain⟨W',hW'⟩:∃z,z=a7 W w.heap.size (.map (((aC (w.heap.size+1)).take 5).toArray.push ⟨C ⟨#[60,61]⟩,H #[F D 2,.func (.func 44) #[] #[]],((aC (w.heap.size+1)).take 5).length⟩) (((aC (w.heap.size+1)).take 5).length+1)):=⟨_,rfl⟩
 rw[←hW'] at hrun
 replace HB:Hid (BK w W' ((aC (w.heap.size+1)).take 6) (cJ.take 3)):=HB.out.insert2 hW'
 clear hW'
 have hrun5:=hrun
 clear hrun
 obtain⟨W,hWW⟩:∃z,z=W':=⟨_,rfl⟩
 rw[←hWW] at HB hrun5
 clear hWW
 have hrun:=al (P:=Tryz.prog) Tryz.underlying54 Tryz.underlying9 HB.out.blk (fun e he=>br _ e (A he)) ⟨#[110,111,116]⟩ (by kernel_rfl) (H #[F D 1,.func (.func 46) #[] #[]])
 obtain⟨W',hW'⟩:∃z,z=a7 W w.heap.size (.map (((aC (w.heap.size+1)).take 6).toArray.push ⟨C ⟨#[110,111,116]⟩,H #[F D 1,.func (.func 46) #[] #[]],((aC (w.heap.size+1)).take 6).length⟩) (((aC (w.heap.size+1)).take 6).length+1)):=⟨_,rfl⟩
 rw[←hW'] at hrun
 replace HB:Hid (BK w W' ((aC (w.heap.size+1)).take 7) (cJ.take 3)):=HB.out.insert2 hW'
 clear hW'
 have hrun6:=hrun
 clear hrun
 go_wp2_with fail
 generalize W'=W at HB ⊢
 refine(HL.out _ _).mono ?_
 rintro e W' ⟨rfl,hW'⟩
 have hz:W.heap.size=w.heap.size+4:=HB.out.size
 rw[hz]
 replace HB:Hid (BK w W' ((aC (w.heap.size+1)).take 7) (cJ.take 4)):=HB.out.more2 hW'
 clear hW' hz
 generalize W'=W at HB ⊢
 have hrun:=al (P:=Tryz.prog) Tryz.underlying54 Tryz.underlying9 HB.out.blk (fun e he=>br _ e (A he)) ⟨#[111,114]⟩ (by kernel_rfl) (H #[F D 2,.func (.func 81) #[] #[I (some ⟨w.heap.size+4,0,none⟩)]])
 obtain⟨W',hW'⟩:∃z,z=a7 W w.heap.size (.map (((aC (w.heap.size+1)).take 7).toArray.push ⟨C ⟨#[111,114]⟩,H #[F D 2,.func (.func 81) #[] #[I (some ⟨w.heap.size+4,0,none⟩)]],((aC (w.heap.size+1)).take 7).length⟩) (((aC (w.heap.size+1)).take 7).length+1)):=⟨_,rfl⟩
 rw[←hW'] at hrun
 replace HB:Hid (BK w W' ((aC (w.heap.size+1)).take 8) (cJ.take 4)):=HB.out.insert2 hW'
 clear hW'
 have hrun7:=hrun
 clear hrun
 go_wp2_with fail
 generalize W'=W at HB ⊢
 refine(HL.out _ _).mono ?_
 rintro e W' ⟨rfl,hW'⟩
 have hz:W.heap.size=w.heap.size+5:=HB.out.size
 rw[hz]
 replace HB:Hid (BK w W' ((aC (w.heap.size+1)).take 8) (cJ.take 5)):=HB.out.more2 hW'
 clear hW' hz
 generalize W'=W at HB ⊢
 have hrun:=al (P:=Tryz.prog) Tryz.underlying54 Tryz.underlying9 HB.out.blk (fun e he=>br _ e (A he)) ⟨#[97,110,100]⟩ (by kernel_rfl) (H #[F D 2,.func (.func 81) #[] #[I (some ⟨w.heap.size+5,0,none⟩)]])
 obtain⟨W',hW'⟩:∃z,z=a7 W w.heap.size (.map (((aC (w.heap.size+1)).take 8).toArray.push ⟨C ⟨#[97,110,100]⟩,H #[F D 2,.func (.func 81) #[] #[I (some ⟨w.heap.size+5,0,none⟩)]],((aC (w.heap.size+1)).take 8).length⟩) (((aC (w.heap.size+1)).take 8).length+1)):=⟨_,rfl⟩
 rw[←hW'] at hrun
 replace HB:Hid (BK w W' ((aC (w.heap.size+1)).take 9) (cJ.take 5)):=HB.out.insert2 hW'
 clear hW'
 have hrun8:=hrun
 clear hrun
 obtain⟨W,hWW⟩:∃z,z=W':=⟨_,rfl⟩
 rw[←hWW] at HB hrun8
 clear hWW
 have hrun:=al (P:=Tryz.prog) Tryz.underlying54 Tryz.underlying9 HB.out.blk (fun e he=>br _ e (A he)) ⟨#[105,110]⟩ (by kernel_rfl) (H #[F D 2,.func (.func 48) #[] #[]])
 obtain⟨W',hW'⟩:∃z,z=a7 W w.heap.size (.map (((aC (w.heap.size+1)).take 9).toArray.push ⟨C ⟨#[105,110]⟩,H #[F D 2,.func (.func 48) #[] #[]],((aC (w.heap.size+1)).take 9).length⟩) (((aC (w.heap.size+1)).take 9).length+1)):=⟨_,rfl⟩
 rw[←hW'] at hrun
 replace HB:Hid (BK w W' ((aC (w.heap.size+1)).take 10) (cJ.take 5)):=HB.out.insert2 hW'
 clear hW'
 have hrun9:=hrun
 clear hrun
 obtain⟨W,hWW⟩:∃z,z=W':=⟨_,rfl⟩
 rw[←hWW] at HB hrun9
 clear hWW
 have hrun:=al (P:=Tryz.prog) Tryz.underlying54 Tryz.underlying9 HB.out.blk (fun e he=>br _ e (A he)) ⟨#[110,117,108,108]⟩ (by kernel_rfl) (H #[F D 1,.func (.func 49) #[] #[]])
 obtain⟨W',hW'⟩:∃z,z=a7 W w.heap.size (.map (((aC (w.heap.size+1)).take 10).toArray.push ⟨C ⟨#[110,117,108,108]⟩,H #[F D 1,.func (.func 49) #[] #[]],((aC (w.heap.size+1)).take 10).length⟩) (((aC (w.heap.size+1)).take 10).length+1)):=⟨_,rfl⟩
 rw[←hW'] at hrun
 replace HB:Hid (BK w W' ((aC (w.heap.size+1)).take 11) (cJ.take 5)):=HB.out.insert2 hW'
 clear hW'
 have hrun10:=hrun
 clear hrun
 obtain⟨W,hWW⟩:∃z,z=W':=⟨_,rfl⟩
 rw[←hWW] at HB hrun10
 clear hWW
 have hrun:=al (P:=Tryz.prog) Tryz.underlying54 Tryz.underlying9 HB.out.blk (fun e he=>br _ e (A he)) ⟨#[115,105,122,101]⟩ (by kernel_rfl) (H #[F D 1,.func (.func 51) #[] #[]])
 obtain⟨W',hW'⟩:∃z,z=a7 W w.heap.size (.map (((aC (w.heap.size+1)).take 11).toArray.push ⟨C ⟨#[115,105,122,101]⟩,H #[F D 1,.func (.func 51) #[] #[]],((aC (w.heap.size+1)).take 11).length⟩) (((aC (w.heap.size+1)).take 11).length+1)):=⟨_,rfl⟩
 rw[←hW'] at hrun
 replace HB:Hid (BK w W' ((aC (w.heap.size+1)).take 12) (cJ.take 5)):=HB.out.insert2 hW'
 clear hW'
 have hrun11:=hrun
 clear hrun
 obtain⟨W,hWW⟩:∃z,z=W':=⟨_,rfl⟩
 rw[←hWW] at HB hrun11
 clear hWW
 have hrun:=al (P:=Tryz.prog) Tryz.underlying54 Tryz.underlying9 HB.out.blk (fun e he=>br _ e (A he)) ⟨#[104,101,97,100]⟩ (by kernel_rfl) (H #[F D 1,.func (.func 52) #[] #[]])
 obtain⟨W',hW'⟩:∃z,z=a7 W w.heap.size (.map (((aC (w.heap.size+1)).take 12).toArray.push ⟨C ⟨#[104,101,97,100]⟩,H #[F D 1,.func (.func 52) #[] #[]],((aC (w.heap.size+1)).take 12).length⟩) (((aC (w.heap.size+1)).take 12).length+1)):=⟨_,rfl⟩
 rw[←hW'] at hrun
 replace HB:Hid (BK w W' ((aC (w.heap.size+1)).take 13) (cJ.take 5)):=HB.out.insert2 hW'
 clear hW'
 have hrun12:=hrun
 clear hrun
 obtain⟨W,hWW⟩:∃z,z=W':=⟨_,rfl⟩
 rw[←hWW] at HB hrun12
 clear hWW
 have hrun:=al (P:=Tryz.prog) Tryz.underlying54 Tryz.underlying9 HB.out.blk (fun e he=>br _ e (A he)) ⟨#[99,111,97,108,101,115,99,101]⟩ (by kernel_rfl) (H #[F D (-1),.func (.func 53) #[] #[]])
 obtain⟨W',hW'⟩:∃z,z=a7 W w.heap.size (.map (((aC (w.heap.size+1)).take 13).toArray.push ⟨C ⟨#[99,111,97,108,101,115,99,101]⟩,H #[F D (-1),.func (.func 53) #[] #[]],((aC (w.heap.size+1)).take 13).length⟩) (((aC (w.heap.size+1)).take 13).length+1)):=⟨_,rfl⟩
 rw[←hW'] at hrun
 replace HB:Hid (BK w W' ((aC (w.heap.size+1)).take 14) (cJ.take 5)):=HB.out.insert2 hW'
 clear hW'
 have hrun13:=hrun
 clear hrun
 obtain⟨W,hWW⟩:∃z,z=W':=⟨_,rfl⟩
 rw[←hWW] at HB hrun13
 clear hWW
 have hrun:=al (P:=Tryz.prog) Tryz.underlying54 Tryz.underlying9 HB.out.blk (fun e he=>br _ e (A he)) ⟨#[108,105,115,116]⟩ (by kernel_rfl) (H #[F D (-1),.func (.func 54) #[] #[]])
 obtain⟨W',hW'⟩:∃z,z=a7 W w.heap.size (.map (((aC (w.heap.size+1)).take 14).toArray.push ⟨C ⟨#[108,105,115,116]⟩,H #[F D (-1),.func (.func 54) #[] #[]],((aC (w.heap.size+1)).take 14).length⟩) (((aC (w.heap.size+1)).take 14).length+1)):=⟨_,rfl⟩
 rw[←hW'] at hrun
 replace HB:Hid (BK w W' ((aC (w.heap.size+1)).take 15) (cJ.take 5)):=HB.out.insert2 hW'
 clear hW'
 have hrun14:=hrun
 clear hrun
 obtain⟨W,hWW⟩:∃z,z=W':=⟨_,rfl⟩
 rw[←hWW] at HB hrun14
 clear hWW
 have hrun:=al (P:=Tryz.prog) Tryz.underlying54 Tryz.underlying9 HB.out.blk (fun e he=>br _ e (A he)) ⟨#[105,100]⟩ (by kernel_rfl) (H #[F D 1,.func (.func 55) #[] #[]])
 obtain⟨W',hW'⟩:∃z,z=a7 W w.heap.size (.map (((aC (w.heap.size+1)).take 15).toArray.push ⟨C ⟨#[105,100]⟩,H #[F D 1,.func (.func 55) #[] #[]],((aC (w.heap.size+1)).take 15).length⟩) (((aC (w.heap.size+1)).take 15).length+1)):=⟨_,rfl⟩
 rw[←hW'] at hrun
 replace HB:Hid (BK w W' ((aC (w.heap.size+1)).take 16) (cJ.take 5)):=HB.out.insert2 hW'
 clear hW'
 have hrun15:=hrun
 clear hrun
 obtain⟨W,hWW⟩:∃z,z=W':=⟨_,rfl⟩
 rw[←hWW] at HB hrun15
 clear hWW
 have hrun:=al (P:=Tryz.prog) Tryz.underlying54 Tryz.underlying9 HB.out.blk (fun e he=>br _ e (A he)) ⟨#[116,121,112,101]⟩ (by kernel_rfl) (H #[F D 1,.nilFunc])
 obtain⟨W',hW'⟩:∃z,z=a7 W w.heap.size (.map (((aC (w.heap.size+1)).take 16).toArray.push ⟨C ⟨#[116,121,112,101]⟩,H #[F D 1,.nilFunc],((aC (w.heap.size+1)).take 16).length⟩) (((aC (w.heap.size+1)).take 16).length+1)):=⟨_,rfl⟩
 rw[←hW'] at hrun
 replace HB:Hid (BK w W' ((aC (w.heap.size+1)).take 17) (cJ.take 5)):=HB.out.insert2 hW'
 clear hW'
 have hrun16:=hrun
 clear hrun
 go_wp2_with fail
 generalize W'=W at HB ⊢
 go_ret
 exact⟨rfl,HB.out⟩
def ndE:Int→List Nd→Int
 | _,[]=>0
 | ah,x::r=>if dc ah x=0 then ndE x.id r else dc ah x
def edE (N:List Nd):Int→List Ed→Int
 | _,[]=>0
 | ah,x::r=>if cl N ah x=0 then edE N x.id r else cl N ah x
def bU:Int→List Int→Int
 | ah,[]=>ah
 | _,x::r=>bU x r
def gE (N:List Nd) (E:List Ed) (next:Int):Int:=
 if 40<N.length∨60<E.length then 2 else if ndE 0 N=0 then (if edE N 0 E=0 then (if next≤bU 0 (N.map Nd.id)∨next≤bU 0 (E.map Ed.id)∨1099511627776<next then 9 else 0) else edE N 0 E) else ndE 0 N
theorem j6:∀(N:List Nd) (ah:Int),ndE ah N=0→ez (N.map Nd.id)∧(∀x ∈ N,ah<x.id∧b6 x.labs=0∧bJ x.props=0)
 | [],ah,_=>⟨fun i j x y _ h=>by simp at h,fun x h=>by cases h⟩
 | x::r,ah,h=>by
   unfold ndE at h
   split at h
   ·rename_i h1
    have h2:¬x.id≤ah∧b6 x.labs=0∧bJ x.props=0:=by
     unfold dc at h1
     split at h1
     ·exact absurd h1 (by decide)
     ·split at h1
      ·rename_i h3 h4
       exact⟨h3,h4,h1⟩
      ·rename_i h3 h4
       exact absurd h1 h4
    obtain⟨hr,hall⟩:=j6 r x.id h
    refine⟨fun i j u v hij hu hv=>?_,fun y hy=>?_⟩
    ·cases j with
     | zero=>omega
     | succ j=>
       cases i with
       | zero=>
         simp only[S,List.getElem?_cons_zero,Option.some.injEq] at hu
         simp only[S,List.getElem?_cons_succ] at hv
         obtain⟨y,hy,rfl⟩:=List.mem_map.1 (List.mem_of_getElem? hv)
         rw[←hu]
         exact(hall y hy).1
       | succ i=>
         simp only[S,List.getElem?_cons_succ] at hu hv
         exact hr i j u v (by omega) hu hv
    ·rcases List.mem_cons.1 hy with rfl | hy
     ·exact⟨by omega,h2.2⟩
     ·have:=hall y hy
      exact⟨by omega,this.2⟩
   ·rename_i h1
    exact absurd h h1
theorem ju (N:List Nd) (E:List Ed) (na:Option Addr) (nl nc:Nat) (ea:Option Addr) (el ec:Nat) (next:Int) (w:World) (hNA:bF w N na nl) (hEA:bO w E ea el)
 (hN:∀x ∈ N,∀w',Below w.heap.size w w'→(Calls Tryz.prog 71 #[G x.la x.ll x.lc] w' fun e w''=>e=K (F D (b6 x.labs))∧Below w'.heap.size w' w'')∧(Calls Tryz.prog 72 #[G x.pa x.pl x.pc] w' fun e w''=>e=K (F D (bJ x.props))∧Below w'.heap.size w' w''))
 (hE:∀x ∈ E,∀w',Below w.heap.size w w'→Calls Tryz.prog 72 #[G x.pa x.pl x.pc] w' fun e w''=>e=K (F D (bJ x.props))∧Below w'.heap.size w' w'') :
 Calls Tryz.prog 13 #[H #[G na nl nc,G ea el ec,F D next]] w fun e w'=>e=K (F D (gE N E next))∧Below w.heap.size w w':=by
 obtain⟨R,hR⟩:∃R,R=gE N E next:=⟨_,rfl⟩
 rw[←hR]
 have HR:=aa hR
 have HNA:=aa hNA
 have HEA:=aa hEA
 have hn63:=hNA.2.1
 have he63:=hEA.2.1
 have HNL:=aa hNA.1
 have HEL:=aa hEA.1
 have HND:Hid (∀(x:Nd) (ah:Int),x ∈ N→∀W,Below w.heap.size w W→Calls Tryz.prog 36 #[H #[F D x.id,G x.la x.ll x.lc,G x.pa x.pl x.pc],F D ah] W fun e w'=>e=K (F D (dc ah x))∧Below W.heap.size W w'):=fun x ah hx W k=>
  mM ah x W (fun w' k'=>(hN x hx w' (aZ k k.size k')).1) (fun w' k'=>(hN x hx w' (aZ k k.size k')).2)
 have HED:Hid (ez (N.map Nd.id)→nl≤60→∀(x:Ed) (ah:Int),x ∈ E→x.typ.size≤9223372036854775807→∀W,Below w.heap.size w W→Calls Tryz.prog 37 #[H #[F D x.id,F D x.frm,F D x.dst,C x.typ,G x.pa x.pl x.pc],F D ah,G na nl nc] W fun e w'=>e=K (F D (cl N ah x))∧Below W.heap.size W w'):=fun hr h60 x ah hx ht W k=>
  mN N na nl nc ah x W (hNA.below k) h60 hr ht (fun w' k'=>hE x hx w' (aZ k k.size k'))
 clear hR hN hE hNA hEA
 by_cases hbig:40<nl∨60<el
 ·have H3:=aa (show R=2 by rw[HR.out,gE,if_pos (by have:=HNL.out;have:=HEL.out;omega)])
  clear HR HND HED
  by_cases h4:40<nl
  ·have h4':(40:Int)<nl:=by omega
   clear hbig h4
   go_enter Tryz.func13,Tryz.ntmps13
   go_wp2_with fail
   go_ret
   exact⟨ag (by rw[H3.out]),(V _ _).alloc (O _) _⟩
  ·have h4':¬(40:Int)<nl:=by omega
   have h6':(60:Int)<el:=by omega
   clear hbig h4
   go_enter Tryz.func13,Tryz.ntmps13
   go_wp2_with fail
   go_ret
   exact⟨ag (by rw[H3.out]),(V _ _).alloc (O _) _⟩
 ·have h4':¬(40:Int)<nl:=by omega
  have h6':¬(60:Int)<el:=by omega
  have h40:nl≤40:=by omega
  have h60:el≤60:=by omega
  have HR1:=aa (show R=if ndE 0 N=0 then (if edE N 0 E=0 then (if next≤bU 0 (N.map Nd.id)∨next≤bU 0 (E.map Ed.id)∨1099511627776<next then 9 else 0) else edE N 0 E) else ndE 0 N by rw[HR.out,gE,if_neg (by have:=HNL.out;have:=HEL.out;omega)])
  clear HR hbig
  have b0:Below w.heap.size w (w.alloc (J #[G na nl nc,G ea el ec,F D next] 25)):=(V _ _).alloc (O _) _
  have z0:(w.alloc (J #[G na nl nc,G ea el ec,F D next] 25)).heap.size=w.heap.size+1:=by simp
  have hx:=ae w (J #[G na nl nc,G ea el ec,F D next] 25)
  have HY:Hid (∀W,Below (w.heap.size+1) (w.alloc (J #[G na nl nc,G ea el ec,F D next] 25)) W→W.cell? ⟨w.heap.size,0,none⟩=some (G na nl nc)∧W.cell? ⟨w.heap.size,1,none⟩=some (G ea el ec)∧W.cell? ⟨w.heap.size,2,none⟩=some (F D next)):=by
   intro W k
   have q:∀o,W.cell? ⟨w.heap.size,o,none⟩=_:=fun o=>(k.cell (p:=⟨w.heap.size,o,none⟩) (Nat.lt_succ_self _)).trans (ac hx o)
   exact⟨q 0,q 1,q 2⟩
  have B0:=aa b0
  have Z0:=aa z0
  clear hx b0 z0
  go_enter Tryz.func13,Tryz.ntmps13
  go_wp2_with fail
  go_loopg [3,24] nl (fun g s3 s24 wr=>∃(i:Nat) (ah:Int),i≤nl∧nl-i≤g∧s3=F D ah∧s24=F D i∧Below (w.heap.size+1) (w.alloc (J #[G na nl nc,G ea el ec,F D next] 25)) wr∧ndE 0 N=ndE ah (N.drop i)∧bU 0 (N.map Nd.id)=bU ah ((N.map Nd.id).drop i))
  case atStart=>exact⟨0,0,Nat.zero_le _,by omega,rfl,rfl,V _ _,rfl,rfl⟩
  case round=>
   obtain⟨i,ah,hi,hg,rfl,rfl,hbw,hfe,hla⟩:=hrel
   have HF:=aa hfe
   have HLA:=aa hla
   clear hfe hla
   have hz:w.heap.size+1≤wr.heap.size:=by have:=hbw.size;rw[Z0.out] at this;exact this
   have hw0:Below w.heap.size w wr:=B0.out.trans (hbw.mono (by omega))
   by_cases hlt:i<nl
   ·obtain⟨b,off,ha,hb,hc⟩:=HNA.out.2.2 (by omega)
    subst ha
    obtain⟨x,hx,hd⟩:=aF (L:=N) (i:=i) (by have:=HNL.out;omega)
    obtain⟨c0,c1,c2⟩:=hc i x hx
    have q:∀o,wr.cell? ⟨b,o,none⟩=w.cell? ⟨b,o,none⟩:=fun o=>hw0.cell (p:=⟨b,o,none⟩) hb
    have d0:=(q _).trans c0
    have d1:=(q _).trans c1
    have d2:=(q _).trans c2
    have HD:=aa hd
    have HX:=aa (List.mem_of_getElem? hx)
    have HM:=aa (show(N.map Nd.id).drop i=x.id::(N.map Nd.id).drop (i+1) by rw[←U,hd,S,U])
    clear hc hd hx c0 c1 c2 q
    go_wp2_with fail
    refine(HND.out x ah HX.out _ (hw0.alloc (by omega) _)).mono ?_
    rintro e w1 ⟨rfl,k1⟩
    have y0:w1.cell? ⟨wr.heap.size,0,none⟩=some (F D x.id):=by rw[k1.cell (by simp)];simp
    have hb1:Below (w.heap.size+1) (w.alloc (J #[G (some ⟨b,off,none⟩) nl nc,G ea el ec,F D next] 25)) w1:=(hbw.alloc hz _).trans (k1.mono (by simp;omega))
    clear k1 d0 d1 d2
    by_cases he:dc ah x=0
    ·have he':(dc ah x != 0)=false:=by simp[he]
     have H2:=aa he
     clear he
     go_wp2_with fail
     go_roundg (nl-(i+1))
     case measure=>omega
     case rel=>exact⟨i+1,x.id,by omega,by omega,rfl,by go_num,hb1,by rw[HF.out,HD.out,ndE,if_pos H2.out],by rw[HLA.out,HM.out,bU]⟩
    ·have he':(dc ah x != 0)=true:=by simp[he]
     have H3:=aa (show R=dc ah x by
      have h5:ndE 0 N=dc ah x:=by rw[HF.out,HD.out,ndE,if_neg he]
      rw[HR1.out,h5,if_neg he])
     clear he HR1
     have hw1:=aa (B0.out.trans (hb1.mono (by omega)))
     go_wp2_with fail
     go_ret
     exact⟨ag (by rw[H3.out]),hw1.out⟩
   ·have hN0:ndE 0 N=0:=by rw[HF.out,M (by have:=HNL.out;omega)];rfl
    have HLN:=aa (show bU 0 (N.map Nd.id)=ah by rw[HLA.out,M (by have:=HNL.out;simp;omega)];rfl)
    have HR2:=aa (show R=if edE N 0 E=0 then (if next≤ah∨next≤bU 0 (E.map Ed.id)∨1099511627776<next then 9 else 0) else edE N 0 E by rw[HR1.out,if_pos hN0,HLN.out])
    have HRI:=aa (j6 N 0 hN0).1
    clear HR1 hN0 HF HLA HLN HND
    obtain⟨y0,y1,y2⟩:=HY.out wr hbw
    obtain⟨W1,rfl⟩:∃W1,W1=wr:=⟨_,rfl⟩
    have HBW:=aa hbw
    have HW0:=aa hw0
    have HZ:=aa hz
    clear hbw hw0 hz hi hg
    go_wp2_with fail
    go_loopg [4,40] el (fun g s4 s40 wq=>∃(i:Nat) (bh:Int),i≤el∧el-i≤g∧s4=F D bh∧s40=F D i∧Below (w.heap.size+1) (w.alloc (J #[G na nl nc,G ea el ec,F D next] 25)) wq∧edE N 0 E=edE N bh (E.drop i)∧bU 0 (E.map Ed.id)=bU bh ((E.map Ed.id).drop i))
    case atStart=>exact⟨0,0,Nat.zero_le _,by omega,rfl,rfl,HBW.out,rfl,rfl⟩
    case round=>
     clear y0 y1 y2 HBW HW0 HZ
     obtain⟨i,bh,hi,hg,rfl,rfl,hbw,hfe,hla⟩:=hrel
     have HF:=aa hfe
     have HLA:=aa hla
     clear hfe hla
     have hz:w.heap.size+1≤wr.heap.size:=by have:=hbw.size;rw[Z0.out] at this;exact this
     have hw0:Below w.heap.size w wr:=B0.out.trans (hbw.mono (by omega))
     by_cases hlt:i<el
     ·obtain⟨b,off,ha,hb,hc⟩:=HEA.out.2.2 (by omega)
      subst ha
      obtain⟨x,hx,hd⟩:=aF (L:=E) (i:=i) (by have:=HEL.out;omega)
      obtain⟨ht,c0,c1,c2,c3,c4⟩:=hc i x hx
      have q:∀o,wr.cell? ⟨b,o,none⟩=w.cell? ⟨b,o,none⟩:=fun o=>hw0.cell (p:=⟨b,o,none⟩) hb
      have d0:=(q _).trans c0
      have d1:=(q _).trans c1
      have d2:=(q _).trans c2
      have d3:=(q _).trans c3
      have d4:=(q _).trans c4
      have HD:=aa hd
      have HX:=aa (List.mem_of_getElem? hx)
      have HM:=aa (show(E.map Ed.id).drop i=x.id::(E.map Ed.id).drop (i+1) by rw[←U,hd,S,U])
      have HT:=aa ht
      clear hc hd hx c0 c1 c2 c3 c4 q ht
      obtain⟨y0,y1,y2⟩:=HY.out wr hbw
      have hzl:w.heap.size<wr.heap.size:=by omega
      go_wp2_with fail
      refine(HED.out HRI.out (by omega) x bh HX.out HT.out _ (hw0.alloc (by omega) _)).mono ?_
      rintro e w1 ⟨rfl,k1⟩
      clear y0 y1 y2
      have y0:w1.cell? ⟨wr.heap.size,0,none⟩=some (F D x.id):=by rw[k1.cell (by simp)];simp
      have hb1:Below (w.heap.size+1) (w.alloc (J #[G na nl nc,G (some ⟨b,off,none⟩) el ec,F D next] 25)) w1:=(hbw.alloc hz _).trans (k1.mono (by simp;omega))
      clear k1 d0 d1 d2 d3 d4
      by_cases he:cl N bh x=0
      ·have he':(cl N bh x != 0)=false:=by simp[he]
       have H2:=aa he
       clear he
       go_wp2_with fail
       go_roundg (el-(i+1))
       case measure=>omega
       case rel=>exact⟨i+1,x.id,by omega,by omega,rfl,by go_num,hb1,by rw[HF.out,HD.out,edE,if_pos H2.out],by rw[HLA.out,HM.out,bU]⟩
      ·have he':(cl N bh x != 0)=true:=by simp[he]
       have H3:=aa (show R=cl N bh x by
        have h5:edE N 0 E=cl N bh x:=by rw[HF.out,HD.out,edE,if_neg he]
        rw[HR2.out,h5,if_neg he])
       clear he HR2
       have hw1:=aa (B0.out.trans (hb1.mono (by omega)))
       go_wp2_with fail
       go_ret
       exact⟨ag (by rw[H3.out]),hw1.out⟩
     ·have hE0:edE N 0 E=0:=by rw[HF.out,M (by have:=HEL.out;omega)];rfl
      have HLN:=aa (show bU 0 (E.map Ed.id)=bh by rw[HLA.out,M (by have:=HEL.out;simp;omega)];rfl)
      have HR3:=aa (show R=if next≤ah∨next≤bh∨1099511627776<next then 9 else 0 by rw[HR2.out,if_pos hE0,HLN.out])
      clear HR2 hE0 HF HLA HLN HED
      obtain⟨y0,y1,y2⟩:=HY.out wr hbw
      have hw1:=aa hw0
      clear hw0 hbw
      go_wp2_with fail
      all_goals
       go_ret
       refine⟨ag ?_,hw1.out⟩
       rw[HR3.out]
       first
        | rw[if_pos (by omega)]
        | rw[if_neg (by omega)]
end Go.Proofs.YtijjpoohhgapoaaGreatDoor

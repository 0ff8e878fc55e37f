import Derived.Test.YtijjpoohhgapoaaGreatDoorVQBR
import Derived.PinnedBridge
import Derived.Lib.LaidU8T
import Derived.Lib.LaidTab
import Derived.Lay
namespace Go.Proofs.YtijjpoohhgapoaaGreatDoor
open Go.RowKit
open Go.RowKit Go.Lib
set_option linter.unusedVariables false
open Value renaming slice → C, int → F, string → G, agg → K
open IntKind renaming i64 → D
open Ending renaming returned → J
theorem sv {B:Nat} (w:World) (N:List Nd) (E:List Ed) (na:Option Addr) (nl nc:Nat) (ea:Option Addr) (el ec:Nat) (next:Int) (S:List ByteArray) (sa:Option Addr) (sl sc:Nat) (I:List Int) (ia:Option Addr) (il ic:Nat) (k vk vn:Int) (vs:ByteArray) (va:Option Addr) (vl vc:Nat) (nm:ByteArray) (a:Option Addr) (l c:Nat) (Lv:List T) (A:List Tm) (mx:Int) (hGr:iN w N E na nl ea el) (hS:cD w S sa sl) (hII:dH w I ia il) (hB:B≤w.heap.size) (hT:bD B w) (ht:bd w k vk vn vs va vl vc nm a l c Lv A) (hI:InM (.node k (.node vk vn vs Lv) nm A)) (hm:w.cell? ⟨2,0,none⟩=some (F D mx)) (hgm:2<w.heap.size):Calls Tryz.prog 3 #[K #[C na nl nc,C ea el ec,F D next],C sa sl sc,C ia il ic,K #[F D k,F D vk,F D vn,G vs,C va vl vc,G nm,C a l c]] w fun e w'=>e=J (.bool true)∧Below w.heap.size w w':=by
 by_cases h:gE N E next=0∧il=sl∧sl≤30
 ·obtain⟨h1,h2,h3⟩:=h
  subst h2
  exact lh w N E na nl nc ea el ec next S sa il sc I ia ic k vk vn vs va vl vc nm a l c Lv A mx hGr hS hII hB hT ht hI hm hgm h1 h3
 ·exact mw w N E na nl nc ea el ec next S sa sl sc I ia il ic k vk vn vs va vl vc nm a l c Lv A mx hGr hS hII hB hT ht hI hm hgm h
section
variable {H:Type} {enc:TypeId × Value→H} {w:World} {base:Nat} {spare:Nat→Bool} {held:Bool}
theorem tI {fuel:Nat} {a:Option Addr} {l c:Nat} {y:DataW H × List MemPlace} (h:DataW.trod enc Tryz.prog w base spare held fuel 27 [C a l c]=some y):l≤c∧∃L,dH w L a l:=by
 have hm:maxLen≤9223372036854775807:=by unfold maxLen;decide
 obtain⟨h1,h2,h3⟩:=eG Tryz.underlying27 eR (by omega) h
 refine⟨h1,?_⟩
 by_cases h0:l=0
 ·subst h0
  exact⟨[],rfl,by omega,fun h=>absurd h (Nat.lt_irrefl _)⟩
 ·obtain⟨b,off,ha,hb,hall⟩:=h3 (by omega)
  obtain⟨L,hl,hL⟩:=gz (fun i (s:Int)=>w.cell? ⟨b,off+i,none⟩=some (F D s)) l (fun i hi=>by
   obtain⟨m,cs,z,q1,q2,q3⟩:=hall i hi
   obtain⟨s,e2,_,ws⟩:=DataW.trod_int Tryz.underlying3 q3
   subst e2
   have:=q2 0 _ rfl
   rw[Nat.mul_one,Nat.add_zero] at this
   exact⟨s,this⟩)
  exact⟨L,hl.symm,h2,fun _=>⟨b,off,ha,hb,hL⟩⟩
end
theorem rG:(Rows.laid_unicode_utf8_acceptRanges:DataW Unit)=acceptData:=by kernel_rfl
theorem sH:(Rows.laid_unicode_utf8_first:DataW Unit)=firstData:=Pinned.utf8First_eq
theorem tc:U8Extra Tryz.prog Tryz.lays196_ren:=⟨by kernel_rfl,by kernel_rfl,by kernel_rfl,by kernel_rfl,by kernel_rfl,by kernel_rfl,by kernel_rfl⟩
theorem tg {l:List (String × DataW Unit)} (hf:("unicode/utf8.first",Rows.laid_unicode_utf8_first) ∈ l) (ha:("unicode/utf8.acceptRanges",Rows.laid_unicode_utf8_acceptRanges) ∈ l) {W:World} (h:laidMet Tryz.prog l W):bD W.heap.size W:=by
 have h0:Lib.Utf8Tabs 0 1 W:=utf8Tabs_of_readsT (U8Types.of196 Tryz.lays196) tc
  (sH▸Lib.laidMet.reads h hf)
  (rG▸Lib.laidMet.reads h ha)
 have b0:0<W.heap.size:=World.block_lt_of_cell? W _ (h0.1 0 (by decide))
 have b1:1<W.heap.size:=World.block_lt_of_cell? W _ (h0.2 0 (by decide)).1
 intro w' hb
 refine⟨fun c hc=>?_,fun i hi=>⟨?_,?_⟩⟩
 ·rw[hb.cell (p:=⟨0,c,none⟩) b0];exact h0.1 c hc
 ·rw[hb.cell (p:=⟨1,2*i,none⟩) b1];exact(h0.2 i hi).1
 ·rw[hb.cell (p:=⟨1,2*i+1,none⟩) b1];exact(h0.2 i hi).2
end Go.Proofs.YtijjpoohhgapoaaGreatDoor

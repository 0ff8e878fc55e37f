/-
  The library contracts that the walks of this seat use, laid at its dump: each is one application of a theorem of the library.
-/
import Derived.Shelf.Lay
import Derived.Shelf.LaySoft
import Derived.Ground.GgsProg
import Derived.Test.YtmjeanpjiogkiaaDoorProg
import Derived.Shelf.Unicode.ValidAny
namespace Go.Proofs
open Go.Shelf
shelf_try shelf_lay Lays.n196 Nm 196 at Tryd as Tryd.lays196
shelf_try open Go.RowKit in
theorem Tryd.utf8_ValidString (s : ByteArray) (w : World) (hs : s.size ≤ 9223372036854775807) (hT : Lib.Utf8Tabs 0 1 w) :
    Calls Tryd.prog 39 #[.string s] w fun e w' => e = .returned (.bool (Lib.validD s.data.toList)) ∧ Below w.heap.size w w' := Any.utf8_ValidString Tryd.lays196 s w hs hT
shelf_tried
end Go.Proofs

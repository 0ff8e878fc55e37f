/-
  What is proved here: graph.Check and espalierref.CheckGraph answer the same of any graph that lies in memory; so the law GraphCheck answers true of it; what was there is as it was.
-/
import Derived.Test.YtjcfpnlfomkghaaDoorGLawNames
import Derived.Test.YtjcfpnlfomkghaaDoorGOpen2
import Derived.Test.YtjcfpnlfomkghaaDoorGRefG
namespace Go.Proofs.YtjcfpnlfomkghaaDoor
open Go.RowKit
set_option linter.unusedVariables false

theorem check_ok {w : World} {N : List Nd} {E : List Ed} {na : Option Addr} {nl : Nat} {ea : Option Addr} {el : Nat} (h : GrOk w N E na nl ea el) (nc ec : Nat) (next : Int) (W : World) (k : Below w.heap.size w W) :
    Calls Tryd.prog 15 #[.agg #[.slice na nl nc, .slice ea el ec, .int .i64 next]] W fun e w' => e = .returned (.int .i64 (gE N E next)) ∧ Below W.heap.size W w' := by
  have h' := h.below k
  exact check_graph N E na nl nc ea el ec next W h'.1 h'.2.1 (fun x hx w' k' => ⟨labels_of name_any _ _ _ _ w' ((h'.2.2.1 x hx).1.below k'), props_ok x.pc (h'.2.2.1 x hx).2.1 (h'.2.2.1 x hx).2.2 w' k'⟩) (fun x hx w' k' => props_ok x.pc (h'.2.2.2 x hx).1 (h'.2.2.2 x hx).2 w' k')

theorem checkGraph_ok {w : World} {N : List Nd} {E : List Ed} {na : Option Addr} {nl : Nat} {ea : Option Addr} {el : Nat} (h : GrOk w N E na nl ea el) (nc ec : Nat) (next : Int) (W : World) (k : Below w.heap.size w W) :
    Calls Tryd.prog 16 #[.agg #[.slice na nl nc, .slice ea el ec, .int .i64 next]] W fun e w' => e = .returned (.int .i64 (gE N E next)) ∧ Below W.heap.size W w' := by
  have h' := h.below k
  exact ref_graph N E na nl nc ea el ec next W h'.1 h'.2.1 (fun x hx w' k' => ⟨checkLabels_of isName_any _ _ _ _ w' ((h'.2.2.1 x hx).1.below k'), checkProps_ok x.pc (h'.2.2.1 x hx).2.1 (h'.2.2.1 x hx).2.2 w' k'⟩) (fun x hx w' k' => checkProps_ok x.pc (h'.2.2.2 x hx).1 (h'.2.2.2 x hx).2 w' k')

set_option maxHeartbeats 4000000 in
set_option maxRecDepth 100000 in
theorem law_check (N : List Nd) (E : List Ed) (na : Option Addr) (nl nc : Nat) (ea : Option Addr) (el ec : Nat) (next : Int) (w : World) (h : GrOk w N E na nl ea el) :
    Calls Tryd.prog 4 #[.agg #[.slice na nl nc, .slice ea el ec, .int .i64 next]] w fun e w' => e = .returned (.bool true) ∧ Below w.heap.size w w' := by
  obtain ⟨er, her⟩ : ∃ er, er = gE N E next := ⟨_, rfl⟩
  have hC : Hid (∀ W, Below w.heap.size w W → Calls Tryd.prog 15 #[.agg #[.slice na nl nc, .slice ea el ec, .int .i64 next]] W fun e w' => e = .returned (.int .i64 er) ∧ Below W.heap.size W w') := fun W k => by rw [her]; exact check_ok h nc ec next W k
  have hR : Hid (∀ W, Below w.heap.size w W → Calls Tryd.prog 16 #[.agg #[.slice na nl nc, .slice ea el ec, .int .i64 next]] W fun e w' => e = .returned (.int .i64 er) ∧ Below W.heap.size W w') := fun W k => by rw [her]; exact checkGraph_ok h nc ec next W k
  clear h her
  go_enter Tryd.func4, Tryd.ntmps4
  go_wp2_with fail
  have hx := alloc_new w (.cells #[.slice na nl nc, .slice ea el ec, .int .i64 next] 33)
  have x0 : (w.alloc (.cells #[.slice na nl nc, .slice ea el ec, .int .i64 next] 33)).cell? ⟨w.heap.size, 0, none⟩ = some (.slice na nl nc) := cell_of hx 0
  have x1 : (w.alloc (.cells #[.slice na nl nc, .slice ea el ec, .int .i64 next] 33)).cell? ⟨w.heap.size, 1, none⟩ = some (.slice ea el ec) := cell_of hx 1
  have x2 : (w.alloc (.cells #[.slice na nl nc, .slice ea el ec, .int .i64 next] 33)).cell? ⟨w.heap.size, 2, none⟩ = some (.int .i64 next) := cell_of hx 2
  have b0 : Below w.heap.size w (w.alloc (.cells #[.slice na nl nc, .slice ea el ec, .int .i64 next] 33)) := (Below.refl _ _).alloc (Nat.le_refl _) _
  have s7 : w.heap.size < (w.alloc (.cells #[.slice na nl nc, .slice ea el ec, .int .i64 next] 33)).heap.size := by simp
  clear hx
  generalize w.alloc (.cells #[.slice na nl nc, .slice ea el ec, .int .i64 next] 33) = W at x0 x1 x2 b0 s7 ⊢
  have D0 : Below W.heap.size W W.drew := (Below.refl _ _).drew
  go_region_held3 (fun w' => w'.cell? ⟨w.heap.size, 0, none⟩ = some (.slice na nl nc) ∧ w'.cell? ⟨w.heap.size, 1, none⟩ = some (.slice ea el ec) ∧ w'.cell? ⟨w.heap.size, 2, none⟩ = some (.int .i64 next))
    (first
      | exact S3
      | exact S2
      | exact S1
      | exact ⟨x0, x1, x2⟩
      | go_keep)
    (first
      | (go_at_call 8; refine (drawn_true _).mono ?_; rintro e u1 ⟨rfl, h1⟩; have k1 : Below W.heap.size W u1 := D0.trans h1; have S1 : u1.cell? ⟨w.heap.size, 0, none⟩ = some (.slice na nl nc) ∧ u1.cell? ⟨w.heap.size, 1, none⟩ = some (.slice ea el ec) ∧ u1.cell? ⟨w.heap.size, 2, none⟩ = some (.int .i64 next) := ⟨(k1.cell (p := ⟨w.heap.size, 0, none⟩) s7).trans x0, (k1.cell (p := ⟨w.heap.size, 1, none⟩) s7).trans x1, (k1.cell (p := ⟨w.heap.size, 2, none⟩) s7).trans x2⟩)
      | (go_at_call 15; refine (hC.out _ (below2 b0 k1)).mono ?_; rintro e u2 ⟨rfl, h2⟩; have k2 : Below W.heap.size W u2 := below2 k1 h2; have S2 : u2.cell? ⟨w.heap.size, 0, none⟩ = some (.slice na nl nc) ∧ u2.cell? ⟨w.heap.size, 1, none⟩ = some (.slice ea el ec) ∧ u2.cell? ⟨w.heap.size, 2, none⟩ = some (.int .i64 next) := ⟨(k2.cell (p := ⟨w.heap.size, 0, none⟩) s7).trans x0, (k2.cell (p := ⟨w.heap.size, 1, none⟩) s7).trans x1, (k2.cell (p := ⟨w.heap.size, 2, none⟩) s7).trans x2⟩)
      | (go_at_call 16; refine (hR.out _ (below2 b0 k2)).mono ?_; rintro e u3 ⟨rfl, h3⟩; have k3 : Below W.heap.size W u3 := below2 k2 h3; have S3 : u3.cell? ⟨w.heap.size, 0, none⟩ = some (.slice na nl nc) ∧ u3.cell? ⟨w.heap.size, 1, none⟩ = some (.slice ea el ec) ∧ u3.cell? ⟨w.heap.size, 2, none⟩ = some (.int .i64 next) := ⟨(k3.cell (p := ⟨w.heap.size, 0, none⟩) s7).trans x0, (k3.cell (p := ⟨w.heap.size, 1, none⟩) s7).trans x1, (k3.cell (p := ⟨w.heap.size, 2, none⟩) s7).trans x2⟩))
  all_goals
    go_wp2_with fail
    go_ret
    exact ⟨rfl, below2 b0 k3⟩
end Go.Proofs.YtjcfpnlfomkghaaDoor

/-
  What is proved here: decomp.Check at a norm of at most forty rows: nil just if it is right.
-/
import Derived.Test.YtojpkkbagcahdaaDoorHB
import Derived.Test.YtojpkkbagcahdaaDoorE5
import Derived.Test.YtojpkkbagcahdaaDoorKB
import Derived.Test.YtojpkkbagcahdaaDoorM1
import Derived.Test.YtojpkkbagcahdaaDoorQ9
namespace Go.Proofs.YtojpkkbagcahdaaDoor
open Go.RowKit

theorem checkNil_any (a : Option Addr) (cap : Nat) (vc ve : Value) (t : Nm) (hcap : t.rows.length ≤ cap) (w : World) (p : Nat → Addr) (hg : Gl p w) (hR : Rows4 w (.slice a t.rows.length cap) t.rows) (hC : Tab w vc t.cls) (hE : Runes w ve t.exc) (h1 : t.rows.length ≤ 40) (h2 : t.cls.length ≤ 40) (h3 : t.exc.length ≤ 40) (h4 : ∀ i, i < t.rows.length → (rw_ t.rows i).to.length ≤ 4) (hx : (chk4 t).2 = 0) :
    Calls Tryd.prog 11 #[.agg #[.slice a t.rows.length cap, vc, ve]] w fun e w' => e = .returned .nilIface ∧ Below w.heap.size w w' := by
  refine (check4_any a cap vc ve t hcap w p hg hR hC hE (by omega) (by omega) (by omega) (fun i hi => by have := h4 i hi; omega) (fun _ B => sorts_any t.rows.length B (by omega))).mono ?_
  rintro e w' ⟨fv, rfl, hs, hb⟩
  rcases hs.nil with ⟨-, rfl⟩ | ⟨hn, -⟩
  · exact ⟨rfl, hb⟩
  · exact absurd hx hn
theorem checkErr_any (a : Option Addr) (cap : Nat) (vc ve : Value) (t : Nm) (hcap : t.rows.length ≤ cap) (w : World) (p : Nat → Addr) (hg : Gl p w) (hR : Rows4 w (.slice a t.rows.length cap) t.rows) (hC : Tab w vc t.cls) (hE : Runes w ve t.exc) (h1 : t.rows.length ≤ 40) (h2 : t.cls.length ≤ 40) (h3 : t.exc.length ≤ 40) (h4 : ∀ i, i < t.rows.length → (rw_ t.rows i).to.length ≤ 4) (hx : ¬ (chk4 t).2 = 0) :
    Calls Tryd.prog 11 #[.agg #[.slice a t.rows.length cap, vc, ve]] w fun e w' => ∃ b, e = .returned (.iface 48 (.pointer (some ⟨b, 0, none⟩))) ∧ Below w.heap.size w w' := by
  refine (check4_any a cap vc ve t hcap w p hg hR hC hE (by omega) (by omega) (by omega) (fun i hi => by have := h4 i hi; omega) (fun _ B => sorts_any t.rows.length B (by omega))).mono ?_
  rintro e w' ⟨fv, rfl, hs, hb⟩
  rcases hs.nil with ⟨hz, -⟩ | ⟨-, b, -, rfl, -, -⟩
  · exact absurd (by rw [hz]) hx
  · exact ⟨b, rfl, hb⟩
end Go.Proofs.YtojpkkbagcahdaaDoor
